import PyProof.Rows.All
import Wide.All
import OpenK.AllK
import Wide.FinOn
import HandS.ForMost
import HandS.Wide
import HandS.IsInst
import HandS.Zip
import HandS.DictComp
import HandS.Conv
import HandS.Strs
import HandS.StrMore
import HandS.MakeKwOnly
import KE.SortData
import HandS.Comp
import HandS.ExcInit
import HandS.ExcField
import HandS.ExcSuper
import HandS.WordsExc
import HandS.ExcOwn
import KE.KExcSuper
import HandS.Walk
import HandS.Deep
import HandS.Flow
import HandS.TupAny
import HandS.SortInts
import HandS.NoneIn
import KE.OsSort
import HandS.More
import PyProof.TupleOfSeq
import HandS.Style
import HandS.TupMul
import KE.GoesMore
import PyProof.ReprRoads
import PyProof.ReprBulk
import HandS.SetFor
import HandS.Set
import HandS.Lambda
import HandS.Small
import HandS.EndTab
import KE.KNestM
import KE.KLam
import KE.RegKSuper
import KE.RegKTryMore
import PySem.Challenge.RW_heldnotes_k14_standings_of_rows

set_option Elab.async false
set_option linter.all false
set_option maxRecDepth 100000
set_option maxHeartbeats 0
/-! Rules of my own: a dict comprehension whose keys are tuples; sorted of a dict with such keys. -/
namespace HN
open PySem L2 PySem.Spec PyProof.Rows
theorem t_dictSet {Y : Cx} {pn : List (Addr × Obj)} {τ : L2.St} {H : Hp} {s : Shared} {E : Value → Shared → Prop} {D b : Addr} {kvs : List (List Key × V)} {k : List Key} {v : V} {r : Value} {Q : Unit → Shared → Prop} (hu : Y.A.units < cLine) (I : Inv Y pn τ H s)
    (hD : H D = some (.dT kvs)) (hz : kvs.length < sizeLine) (hb : H b = some (.tup (k.map kV))) (rv : RelV v r) (h : ∀ s', Inv Y pn τ (upd H D (.dT (putK kvs k v))) s' → Q () s') : wpAny (model Y.prog Y.w) Y.A (dictSet D (.ref b) r) Q E s := by
  obtain ⟨z, hd, xs, rel, dd⟩ := dt_of I.hok hD
  have hxs : xs.length ≤ sizeLine := (Paired.length rel) ▸ z
  have hl : (putK kvs k v).length ≤ sizeLine := by have := length_putK kvs k v; omega
  refine wpAny_dictSet_heap (hsz := hxs) (knd := tupleKind (mixKind Y.prog Y.w)) hu (key_of I.hok hb) dd fun h' dd' hs => h _ ?_
  obtain ⟨q, es, ep, hq, h2, h3, h4, _, h5⟩ := dd'
  exact d_write I (by rw [hD]; exact True.intro) hs ⟨q, hq⟩ ⟨hl, hd, _, (rel.put k hb rv).keeps fun c ys ec => (upd_ne (ne_of ec hD (fun z => nomatch z))).trans ec, q, es, ep, hq, h2, h3, h4, h5⟩

section
variable {X : Cx}
/-- one turn of {k: v for target in iter if ..}: what the pair asks -/
def stT (D : Addr) (tk tv : TE) (τ : L2.St) (H : Hp) (N : Hp → Prop) : Prop := tk τ H fun y H1 => tv τ H1 fun z H2 => ∃ (kvs : List (List Key × V)) (k : List Key) (b : Addr), y = .ref b ∧ H2 b = some (.tup (k.map kV)) ∧ H2 D = some (.dT kvs) ∧ kvs.length < sizeLine ∧ N (upd H2 D (.dT (putK kvs k z)))
/-- the walk over J, from the new dict D on -/
def goT (J : It) (g : TG) (tt : TT) (tk tv : TE) (vs : List Nat) (τ : L2.St) (D : Addr) (R : Hp → Prop) (H0 : Hp) : Prop := ∃ W : Nat → Nat → Hp → Prop, (∃ m, W 0 m H0) ∧ ∀ i m H, W i m H → (J.stop i H ∧ R H) ∨
  (J.go i H ∧ ∃ N : Hp → Prop, (∀ H', N H' → ∃ m', m' < m ∧ W (i + 1) m' H') ∧ ∀ x H', J.yld i H x H' → g x (wipe τ vs) H' fun τ2 H2 => wipe τ2 vs = wipe τ vs ∧ tt τ2 H2 fun b H3 => if b = true then stT D tk tv τ2 H3 N else N H3)
def tDT (wi : TI) (g : TG) (tt : TT) (tk tv : TE) (vs : List Nat) : TE := fun τ H Q => wi τ H fun J H1 => ∀ D, H1 D = none → goT J g tt tk tv vs τ D (Q (.ref D)) (upd H1 D (.dT []))
abbrev Blk (X : Cx) (scope : Scope) (s : Shared) (H : Hp) (C : Addr) (cl : List (Str × Addr)) (fp : List Addr) : Cx := X.blk s H scope (compEnvC scope cl C X.env) fp
theorem dt_core {pn : List (Addr × Obj)} {s : Shared} {τ : L2.St} {H : Hp} {Q : VK} {kx vx tg iter : Expr} {ifs : List Expr} {scope : Scope} {own : List (Str × Nat)} {pos pos' : Pos} {wi : TI} {g : TG} {tt : TT} {tk tv : TE} {use : Option (Value → Sem Unit)} {Qf : Value → Shared → Prop}
    (hu : X.A.units < cLine) (hc : X.calm = true) (hN : X.N.Nodup) (I : Inv X pn τ H s) (hi : PI X tg iter wi) (ok : BlkOk X.N X.env.scope scope own)
    (hg : ∀ s H C cl fp, PG (Blk X scope s H C cl fp) tg g) (ht : ∀ s H C cl fp, PTs (Blk X scope s H C cl fp) ifs tt) (hk : ∀ s H C cl fp, PE (Blk X scope s H C cl fp) kx tk) (hv : ∀ s H C cl fp, PE (Blk X scope s H C cl fp) vx tv)
    (hs : ∀ x, foldedSetIterable iter X.env x = pure x) (h : tDT wi g tt tk tv (own.map (·.2)) τ H Q)
    (hend : ∀ D C s' m H', Inv X pn τ H' s' → Q (.ref D) H' → s'.heap.Ns C m → FpOk X pn H' C → compPost (model X.prog X.w) X.A X.xe use Qf (.ref D) C (.ok .next) s') :
    wpAny (model X.prog X.w) X.A (comprehension (.DictComp kx vx [⟨tg, iter, ifs, 0⟩] scope pos) scope X.env pos' newDict false (eval iter X.env) use) Qf X.xe s := by
  have clos : closureFor scope X.env = pure (cloFrom X.env.cells scope.names []) := closure_ok fun y hy e => (ok.free y hy e).elim (fun k => I.ok.has _ (.inl k)) fun k => I.ok.has _ (.inr k)
  refine wpAny_comprehension_free (use := use) rfl hs clos ok.kind (fun y hy e => (ok.uniq y hy).trans (congrArg some e)) (thn (hi.run pn s τ H _ I h) fun xv s1 hx => thn hx fun itv s2 h2 => ?_)
  obtain ⟨it, fp, tn, J, H2, rfl, I2, T, st2, f2, q⟩ := h2
  refine wpAny_newObj_type (newEnv_comp ?_)
  obtain ⟨D, hD⟩ : ∃ D, s2.heap.objs.size = D := ⟨_, rfl⟩
  have hDn : H2 D = none := I2.hok.fresh (Nat.le_of_eq hD)
  obtain ⟨W, ⟨m0, w0⟩, turn⟩ := q D hDn
  obtain ⟨s3, hs3⟩ : ∃ s3 : Shared, s3 = { s2 with heap := s2.heap.push { cls := .type "dict", data := .dict #[] } } := ⟨_, rfl⟩
  obtain ⟨H3, hH3⟩ : ∃ H3 : Hp, H3 = upd H2 D (.dT []) := ⟨_, rfl⟩
  have I3 : Inv X pn τ H3 s3 := by
    subst hs3 hH3 hD
    exact I2.laid (t' := s2.toks) (fun b o e => Heap.get?_push_of_some _ e) (Nat.le_refl _) (dt_empty s2.heap I2.big)
  have e3 : s3.heap = s2.heap.push { cls := .type "dict", data := .dict #[] } := congrArg Shared.heap hs3
  have f3 : ∀ b ∈ fp, FpOk X pn H3 b ∧ b < s3.heap.objs.size := by
    intro b hb
    obtain ⟨o, eo, _⟩ := T.obj _ _ st2 b hb
    have lt : b < s2.heap.objs.size := Heap.lt_size eo
    refine ⟨⟨?_, (f2 b hb).2⟩, ?_⟩
    · subst hH3
      exact (upd_ne (fun z => Nat.lt_irrefl _ (by rw [← hD] at z; exact z ▸ lt))).trans (f2 b hb).1
    · rw [e3, Heap.size_push]; exact Nat.lt_succ_of_lt lt
  have st3 : tn 0 s3.heap := T.keep _ _ _ st2 fun b _ o e => e3 ▸ Heap.get?_push_of_some _ e
  have I4 := block_start I3 ok hN f3
  obtain ⟨cl, hcl⟩ : ∃ cl, cl = cellsFrom (s3.heap.objs.size + 1) scope.names (cloFrom X.env.cells scope.names []) := ⟨_, rfl⟩
  rw [← hs3]
  rw [← hcl] at I4 ⊢
  have pg := hg s3 H3 s3.heap.objs.size cl fp
  have pt := ht s3 H3 s3.heap.objs.size cl fp
  have pk := hk s3 H3 s3.heap.objs.size cl fp
  have pv := hv s3 H3 s3.heap.objs.size cl fp
  show codeAny _ _ (.compStart (.DictComp kx vx [⟨tg, iter, ifs, 0⟩] scope pos) 0 (.ref it) (.ref s2.heap.objs.size) (compEnvC scope cl s3.heap.objs.size X.env)) (compPost (model X.prog X.w) X.A X.xe use Qf (.ref s2.heap.objs.size) s3.heap.objs.size) { s3 with heap := pushCells (s3.heap.push { cls := .type "dict", data := .dict #[] }) scope.names }
  rw [hD]
  obtain ⟨ce, hce⟩ : ∃ ce, ce = compEnvC scope cl s3.heap.objs.size X.env := ⟨_, rfl⟩
  have cL : ce.locals = s3.heap.objs.size := by rw [hce]; rfl
  simp only [Blk] at pg pt pk pv
  rw [← hce] at I4 pg pt pk pv ⊢
  obtain ⟨s4, hs4⟩ : ∃ s4 : Shared, s4 = { s3 with heap := pushCells (s3.heap.push { cls := .type "dict", data := .dict #[] }) scope.names } := ⟨_, rfl⟩
  rw [← hs4] at I4 ⊢
  have st4 : tn 0 s4.heap := T.keep _ _ _ st3 fun b _ o e => by rw [hs4]; exact pushCells_keeps _ _ _ _ (Heap.get?_push_of_some _ e)
  rw [← hH3] at w0
  let B : Cx := X.blk s3 H3 scope ce fp
  let ok2 : Hp → Prop := fun H' => ∀ b ∈ fp, H' b = none
  have fpo : ∀ {τ' : L2.St} {H' : Hp} {s' : Shared}, Inv B [] τ' H' s' → ok2 H' → ∀ b ∈ fp, FpOk B [] H' b := by
    intro τ' H' s' J' n b hb
    exact ⟨n b hb, (J'.ok.exf b hb).1, J'.ok.exfs b hb, .inl hb, fun x c e => (J'.ok.exf b hb).2 x c e, fun p hp => absurd hp (by simp [B])⟩
  let Inn : Nat → Shared → Prop := fun n s' => ∃ i H', Inv B [] (wipe τ (own.map (·.2))) H' s' ∧ tn i s'.heap ∧ ok2 H' ∧ W i n H'
  have loop : codeAny (model X.prog X.w) X.A (.compLoop (.DictComp kx vx [⟨tg, iter, ifs, 0⟩] scope pos) 0 (.ref it) (.ref D) ce) (compPost (model X.prog X.w) X.A X.xe use Qf (.ref D) s3.heap.objs.size) s4 := by
    refine compLoop_anyD Inn ?_ m0 ⟨0, H3, I4, st4, fun b hb => (f3 b hb).1.1, w0⟩
    rintro n s5 ⟨i, H5, I5, st5, n5, w5⟩
    rcases turn i n H5 w5 with ⟨stop, fin⟩ | ⟨go, N, hN', step⟩
    · -- no item is left: back where the comprehension stands
      refine thnF (T.done B rfl rfl rfl hc i [] s5 _ H5 (fun _ _ => False) I5 (fpo I5 n5) st5 stop) fun r s6 ⟨hr, I6⟩ => ?_
      subst hr
      have back : Inv X pn τ H5 s6 := I3.call' (ch := fp) I6.os I6.base I6.hok I6.bare fun b hb => by
        obtain ⟨_, a1, _, a3, a4, a5⟩ := (f3 b hb).1
        exact ⟨a3, a1, a4, a5⟩
      have fr : H5 s3.heap.objs.size = none := cL ▸ (show H5 ce.locals = none from I6.free)
      obtain ⟨m, hn, _⟩ := I6.loc
      exact hend D _ s6 m H5 back fin (cL ▸ (show s6.heap.Ns ce.locals m from hn)) (I3.fpOk (Nat.le_refl _) fr)
    · refine thnF (T.item B rfl rfl rfl hc i [] s5 _ H5 (fun _ _ => False) I5 (fpo I5 n5) st5 go) fun r s6 ⟨u, hr, h6⟩ => ?_
      subst hr
      refine thnF h6 fun _ s7 ⟨x, H7, I7, r7, y7, st7, n7⟩ => ?_
      refine thnF (pg.run _ s7 _ H7 x u _ (I7.pinned (fpo I7 n7) (T.obj _ _ st7)) r7 (step x H7 y7)) fun _ s8 ⟨τ8, H8, I8, hw8, q8⟩ => ?_
      refine thnF (pt.run _ s8 τ8 H8 _ I8 q8) fun b s9 ⟨H9, I9, q9⟩ => ?_
      have fin : ∀ {s' : Shared} {H' : Hp}, Inv B ([] ++ pinsAt fp s7.heap) τ8 H' s' → N H' → ∃ m, m < n ∧ Inn m s' := by
        intro s' H' J' nx
        obtain ⟨m', hm, w'⟩ := hN' H' nx
        have pins : ∀ b ∈ fp, ∀ o, s7.heap.get? b = some o → s'.heap.get? b = some o ∧ H' b = none := by
          intro b hb o e
          have z := J'.pin (b, o) (List.mem_append_right _ (List.mem_append_right _ (mem_pinsAt hb e)))
          exact ⟨z.1, z.2.1⟩
        refine ⟨m', hm, i + 1, H', J'.unpinned (pins := []) |>.weak ?_ ?_, ?_, ?_, w'⟩
        · rw [← hw8, wipe_length]
        · intro j v e
          rw [← hw8] at e
          exact (wipe_some e).1
        · exact T.keep _ _ _ st7 fun b hb o e => (pins b hb o e).1
        · intro b hb
          obtain ⟨o, e, _⟩ := T.obj _ _ st7 b hb
          exact (pins b hb o e).2
      cases b with
      | false => exact fin I9 q9
      | true =>
        have q9' : stT D tk tv τ8 H9 N := q9
        refine thnF (pk.run _ s9 τ8 H9 _ I9 q9') fun z s10 ⟨yk, H10, I10, r10, q10⟩ => ?_
        refine thnF (pv.run _ s10 τ8 H10 _ I10 q10) fun z2 s11 ⟨yv, H11, I11, r11, kvs, k, bk, ek, hb11, hD11, hz11, nx⟩ => ?_
        subst ek
        cases (show z = Value.ref bk from r10)
        exact t_dictSet (Y := B) hu I11 hD11 hz11 hb11 r11 fun s12 I12 => fin I12 nx
  exact codeAny_compStart_dict loop (T.self X.A 0 _ _ _ st4 loop)
/-- {k: v for target in iter if ..} with tuples for keys, as a value -/
theorem pe_dt {kx vx tg iter : Expr} {ifs : List Expr} {scope : Scope} {own : List (Str × Nat)} {pos : Pos} {wi : TI} {g : TG} {tt : TT} {tk tv : TE} (hu : X.A.units < cLine) (hc : X.calm = true) (hN : X.N.Nodup) (hi : PI X tg iter wi) (ok : BlkOk X.N X.env.scope scope own)
    (hg : ∀ s H C cl fp, PG (Blk X scope s H C cl fp) tg g) (ht : ∀ s H C cl fp, PTs (Blk X scope s H C cl fp) ifs tt) (hk : ∀ s H C cl fp, PE (Blk X scope s H C cl fp) kx tk) (hv : ∀ s H C cl fp, PE (Blk X scope s H C cl fp) vx tv)
    (hs : ∀ x, foldedSetIterable iter X.env x = pure x := by intro _; rfl) : PE X (.DictComp kx vx [⟨tg, iter, ifs, 0⟩] scope pos) (tDT wi g tt tk tv (own.map (·.2))) := by
  refine ⟨fun pn s τ H Q I h => ?_⟩
  rw [arm_eval_DictComp]
  refine dt_core hu hc hN I hi ok hg ht hk hv hs h fun D C s' m H' I' q hn f => ⟨m, hn, fun h'' sb => ?_⟩
  obtain ⟨f0, f1, f2, f3, f4, f5⟩ := f
  have I'' : Inv X pn τ H' { s' with heap := h'' } := I'.turned (t' := s'.toks) (fun b o hb e => (sb.2 b hb).trans e) f0 f1 f3 f4 f5
  exact ⟨.ref D, H', I'', rfl, q⟩
/-- the walk over a list that stays -/
theorem goT_list {K : PySem.W.Frag} {a : Addr} {xs : List V} {g : TG} {tt : TT} {tk tv : TE} {vs : List Nat} {τ : L2.St} {D : Addr} {R : Hp → Prop} {H0 : Hp} (Pv : Nat → Hp → Prop) (h0 : Pv 0 H0) (hl : ∀ i H, i ≤ xs.length → Pv i H → SqL K H a xs)
    (hs : ∀ i x H, xs[i]? = some x → Pv i H → g x (wipe τ vs) H fun τ2 H2 => wipe τ2 vs = wipe τ vs ∧ tt τ2 H2 fun b H3 => if b = true then stT D tk tv τ2 H3 (Pv (i + 1)) else Pv (i + 1) H3) (hd : ∀ H, Pv xs.length H → R H) : goT (Itl K a) g tt tk tv vs τ D R H0 := by
  refine ⟨fun i m H => i ≤ xs.length ∧ m = xs.length - i ∧ Pv i H, ⟨_, Nat.zero_le _, rfl, h0⟩, fun i m H ⟨hi, hm, p⟩ => ?_⟩
  have q := hl i H hi p
  rcases Nat.lt_or_ge i xs.length with lt | ge
  · refine Or.inr ⟨⟨xs, xs[i], q, List.getElem?_eq_getElem lt⟩, Pv (i + 1), fun H' p' => ⟨xs.length - (i + 1), by omega, lt, rfl, p'⟩, fun x H' y => ?_⟩
    obtain ⟨rfl, y⟩ := y
    exact hs i x _ (y xs q) p
  · have e : i = xs.length := Nat.le_antisymm hi ge
    subst e
    exact Or.inl ⟨⟨xs, q, Nat.le_refl _⟩, hd H p⟩
theorem swD {kx vx : Expr} {gs : List Comprehension} {scope : Scope} {pos py : Pos} {y : Str} {l : Nat} {env : Env} (hk : env.scope.kind = .function) (hy : env.scope.names.lookup y = some .local) (hl : (py.line == pos.line) = true)
    (ha : (scope.names.any fun z => z.1 == y && (z.2 == .local || z.2 == .cell)) = false) : swapsWith (.DictComp kx vx gs scope pos) (some (.Name y py)) l env = pure true := by
  have b1 : (env.blockKind == ScopeKind.function) = true := by unfold Env.blockKind; rw [hk]; rfl
  have b2 : (env.kindOf y == some NameKind.local) = true := by rw [show env.kindOf y = some .local from hy]; rfl
  show (pure (env.blockKind == ScopeKind.function && env.kindOf y == some NameKind.local && py.line == pos.line && !(scope.names.any fun z => z.1 == y && (z.2 == .local || z.2 == .cell))) : Sem Bool) = pure true
  rw [b1, b2, hl, ha]; rfl
/-- name = {..} on one line -/
theorem ps_setDT {i : Nat} {y : Str} {py : Pos} {kx vx tg iter : Expr} {ifs : List Expr} {scope : Scope} {own : List (Str × Nat)} {pos spos : Pos} {wi : TI} {g : TG} {tt : TT} {tk tv : TE} (hu : X.A.units < cLine) (hc : X.calm = true) (hN : X.N.Nodup) (hy : X.N[i]? = some y)
    (hyl : X.env.scope.names.lookup y = some .local) (hsw : swapsWith (.DictComp kx vx [⟨tg, iter, ifs, 0⟩] scope pos) (some (.Name y py)) spos.line X.env = pure true) (hi : PI X tg iter wi) (ok : BlkOk X.N X.env.scope scope own)
    (hg : ∀ s H C cl fp, PG (Blk X scope s H C cl fp) tg g) (ht : ∀ s H C cl fp, PTs (Blk X scope s H C cl fp) ifs tt) (hk : ∀ s H C cl fp, PE (Blk X scope s H C cl fp) kx tk) (hv : ∀ s H C cl fp, PE (Blk X scope s H C cl fp) vx tv)
    (hs : ∀ x, foldedSetIterable iter X.env x = pure x := by intro _; rfl) : PS X (.Assign [.Name y py] (.DictComp kx vx [⟨tg, iter, ifs, 0⟩] scope pos) spos) (tAsg (tDT wi g tt tk tv (own.map (·.2))) (gName i)) := by
  refine ⟨fun pn s τ H D I h => ?_⟩
  rw [exec_Assign_Name_used _ _ _ _ hsw]
  refine wpAny_bind (wpAny_standAt (wpAny_bind ?_))
  have h' : tDT wi g tt tk tv (own.map (·.2)) τ H (fun x H1 => gName i x τ H1 D.nx) := h
  show wpAny _ X.A (comprehension (.DictComp kx vx [⟨tg, iter, ifs, 0⟩] scope pos) scope X.env (firstIterPos [⟨tg, iter, ifs, 0⟩] pos) newDict false (eval iter X.env) (some (assign (.Name y py) X.env)) >>= fun _ => _) _ _ s
  refine wpAny_bind (thn (dt_core (Qf := fun _ s' => SP X pn D .next s') hu hc hN I hi ok hg ht hk hv hs h' fun L C s' m H' I' q hn f => ?_) fun _ s' hq => wpAny_pure (wpAny_pure hq))
  obtain ⟨f0, f1, f2, f3, f4, f5⟩ := f
  refine wpAny_assign_Name (store_ok2 (v := V.ref L) I' hN hy (.inl hyl) rfl (fun s2 I2 ⟨a, sb, ha⟩ => ?_) (.inr hyl))
  have apart : C ≠ a := ha.elim (fun z => z ▸ f1) fun z e => f4 y a z e.symm
  refine ⟨m, hn.sameBut sb apart, fun h3 sb3 => ⟨_, H', I2.turned (t' := s2.toks) (fun b o hb e => (sb3.2 b hb).trans e) f0 f1 f3 f4 f5, q⟩⟩
end
end HN

namespace HN
open PySem L2 PySem.Spec PyProof.Rows
abbrev K3 := Str × Str × Str
def k3 (k : K3) : List L2.Key := [.inr k.1, .inr k.2.1, .inr k.2.2]
def v3 (k : K3) : List V := [.str k.1, .str k.2.1, .str k.2.2]
def enc3 (k : K3) : PyData := .tuple [.str k.1, .str k.2.1, .str k.2.2]
def le3 : K3 → K3 → Bool := PySem.W.dataLe false enc3
theorem k3_inj {a b : K3} (h : k3 a = k3 b) : a = b := by
  obtain ⟨a1, a2, a3⟩ := a
  obtain ⟨b1, b2, b3⟩ := b
  simp [k3] at h
  obtain ⟨rfl, rfl, rfl⟩ := h
  rfl
theorem k3_map (k : K3) : (k3 k).map kV = v3 k := rfl
theorem reads3 {P : Program} {w : World} {H : Hp} {h : Heap} {a : Addr} {k : K3} (x : ObjOk P w H h a (.tup (v3 k))) : Reads h (.ref a) (enc3 k) [] := by
  obtain ⟨_, its, r, o, e, hc, n, hd⟩ := x
  cases r with
  | cons r1 r => cases r with
    | cons r2 r => cases r with
      | cons r3 r =>
        cases r
        obtain ⟨t1, rfl⟩ := r1
        obtain ⟨t2, rfl⟩ := r2
        obtain ⟨t3, rfl⟩ := r3
        exact .tuple e hc hd (ReadsAll.cons (as := []) (bs := []) (.str _ _) (ReadsAll.cons (as := []) (bs := []) (.str _ _) (ReadsAll.cons (as := []) (bs := []) (.str _ _) .nil)))
theorem alike3 (a b : K3) : PySem.W.alike (enc3 a) (enc3 b) = true := by simp [enc3, PySem.W.alike, PySem.W.alikeAll]
theorem each_refs {R : Value → (Addr × K3) → Prop} (hR : ∀ v b, R v b → v = .ref b.1) : ∀ {out : List Value} {bs : List (Addr × K3)}, PySem.W.EachIs R out bs → out = bs.map fun b => Value.ref b.1
  | _, _, .nil => rfl
  | _, _, .cons h t => by rw [hR _ _ h, each_refs hR t]; rfl
theorem each_of {h : Heap} : ∀ {bs : List (Addr × K3)}, (∀ b ∈ bs, Reads h (.ref b.1) (enc3 b.2) []) → PySem.W.EachIs (fun v (b : Addr × K3) => v = .ref b.1 ∧ Reads h v (enc3 b.2) []) (bs.map fun b => Value.ref b.1) bs
  | [], _ => .nil
  | b :: bs, hb => .cons ⟨rfl, hb b List.mem_cons_self⟩ (each_of fun c hc => hb c (List.mem_cons_of_mem _ hc))
theorem pair_split {H : Hp} : ∀ {kvs : List (List L2.Key × V)} {bs : List Addr} {ks : List K3}, IsKeys H kvs bs → kvs.map (·.1) = ks.map k3 → ∃ ps : List (Addr × K3), ps.map (·.1) = bs ∧ ps.map (·.2) = ks ∧ ∀ b ∈ ps, H b.1 = some (.tup (v3 b.2))
  | [], _, ks, .nil, e => by
    cases ks with
    | nil => exact ⟨[], rfl, rfl, fun _ h => nomatch h⟩
    | cons => cases e
  | (k, v) :: kvs, b :: bs, ks, .cons h t, e => by
    cases ks with
    | nil => cases e
    | cons c ks =>
      rw [List.map_cons, List.map_cons] at e
      injection e with e1 e2
      obtain ⟨ps, q1, q2, q3⟩ := pair_split t e2
      refine ⟨(b, c) :: ps, by rw [List.map_cons, q1], by rw [List.map_cons, q2], fun x hx => ?_⟩
      rcases List.mem_cons.mp hx with rfl | hx
      · show H b = _
        rw [h]
        have e1' : k = k3 c := e1
        rw [e1']
        rfl
      · exact q3 x hx
theorem sort_snd (bs : List (Addr × K3)) : (bs.mergeSort fun a b => le3 a.2 b.2).map (·.2) = (bs.map (·.2)).mergeSort le3 := PySem.W.sort_maps (fun a : Addr × K3 => a.2) fun _ _ _ _ => rfl
section
variable {X : Cx}
/-- sorted(d), d a dict whose keys are three texts each -/
def rSort3 : List V → Hp → VK → Prop := fun xs H Q => ∃ (a : Addr) (kvs : List (List L2.Key × V)) (ks : List K3), xs = [.ref a] ∧ Rd H a (.dT kvs) ∧ kvs.map (·.1) = ks.map k3 ∧ ks.length ≤ 1000 ∧
  ∀ (ps : List (Addr × K3)) p, ps.map (·.2) = ks.mergeSort le3 → (∀ b ∈ ps, H b.1 = some (.tup (v3 b.2))) → H p = none → Q (.ref p) (upd H p (.lst (ps.map fun b => V.ref b.1)))
theorem call_sorted3 (hc : X.calm = true) (hu : X.A.units + 64 < cLine) : CallR X (.builtin "sorted") rSort3 := by
  intro pn s τ H xs us Q I r q
  obtain ⟨a, kvs, ks, rfl, hd, hks, hlen, q⟩ := q
  obtain ⟨u, rfl, rx⟩ := vals1 r
  cases rx
  obtain ⟨z, lo, xs, rel, o, es, ep, ho, hx, hdt, he, hn⟩ := (show ObjOk X.prog X.w H s.heap a (.dT kvs) from hd.ok I.hok)
  have l1 : es.size = xs.length := size_of_entries he
  have l2 : kvs.length = xs.length := Paired.length rel
  have l3 : kvs.length = ks.length := by have := congrArg List.length hks; simpa using this
  have hes : es.size ≤ sizeLine := by omega
  refine Calls.call_function_entry kind_sorted plain_sorted entry_sorted (args_sorted1 _) ?_
  unfold Builtin.«sorted»
  refine wpAny_bind (m := checkCount "sorted" 1 1 _) (wpAny_pure ?_)
  refine wpAny_bind (PySem.W.kdu_collect (A := X.A.in1) (kdl_raw lo hx hdt) (I.ok.hd hc) ho hes fun h' tk acc hk hacc => ?_)
  have ea : acc.toList = (xs.map fun x => x.2.1).map Value.ref := by
    apply List.ext_getElem?
    intro j
    rw [List.getElem?_map, List.getElem?_map]
    cases hj : acc.toList[j]? with
    | none =>
      have h1 := List.getElem?_eq_none_iff.mp hj
      rw [Array.length_toList, hacc.1] at h1
      rw [List.getElem?_eq_none (by omega)]; rfl
    | some v =>
      obtain ⟨en, hen, hv⟩ := hacc.2 j v (by rw [← Array.getElem?_toList]; exact hj)
      have qe := entry_at he j
      rw [hen] at qe
      cases hb : xs[j]? with
      | none => rw [hb] at qe; cases qe
      | some b =>
        rw [hb] at qe
        injection qe with qe
        rw [hv, qe]; rfl
  obtain ⟨ps, p1, p2, p3⟩ := pair_split (isKeys_of rel) hks
  have ea' : acc.toList = ps.map fun b => Value.ref b.1 := by rw [ea, ← p1, List.map_map]; rfl
  have I1 : Inv X pn τ H { s with heap := h', toks := tk } := I.kept hk
  have lps : ps.length = ks.length := by rw [← p2, List.length_map]
  refine wpAny_bind (wpAny_newList ?_ (by rw [ea', List.length_map]; exact Nat.le_trans (by omega : ps.length ≤ 1000) (by decide)))
  rw [ea']
  have hoL : (h'.push (seqObj "list" (ps.map fun b => Value.ref b.1).toArray 0)).get? h'.objs.size = some (seqObj "list" (ps.map fun b => Value.ref b.1).toArray 0) := Heap.get?_push_size _ rfl
  have rd : ∀ b ∈ ps, Reads (h'.push (seqObj "list" (ps.map fun b => Value.ref b.1).toArray 0)) (.ref b.1) (enc3 b.2) [] := fun b hb =>
    Reads.keeps (fun c o e => Heap.get?_push_of_some _ e) (reads3 (P := X.prog) (w := X.w) (I1.hok b.1 _ (p3 b hb)))
  have er := each_of rd
  show wpAny _ _ _ _ _ { s with heap := h'.push (seqObj "list" (ps.map fun b => Value.ref b.1).toArray 0), toks := tk }
  refine wpAny_bind (wpAny_holding (PySem.W.list_sort_data (s := { s with heap := h'.push (seqObj "list" (ps.map fun b => Value.ref b.1).toArray 0), toks := tk }) (R := fun v b => v = .ref b.1) (enc := fun b : Addr × K3 => enc3 b.2) hoL (er.mono fun _ _ x => x.1)
    (er.mono fun _ _ x => ⟨[], x.2, by simp⟩) (PySem.W.AllAlike.of fun b b' => alike3 b.2 b'.2) (PySem.W.Sortable.tuples fun b => ⟨_, _, rfl⟩) (Nat.le_trans (by omega : ps.length ≤ 1000) (by decide)) (fun b _ => ?_) fun out ho' eo => ?_))
  · show X.A.units + 1 + 1 + (PyData.depth (enc3 b.2)) < cLine
    have : PyData.depth (enc3 b.2) ≤ 2 := by simp [enc3, PyData.depth, PyData.depthAll]
    omega
  · have eo' := each_refs (fun v b h => h) eo
    subst eo'
    obtain ⟨e', he'⟩ := sortedHeap_at (vs := ps.map fun b => Value.ref b.1) (out := ((ps.mergeSort (PySem.W.dataLe false fun b : Addr × K3 => enc3 b.2)).map fun b => Value.ref b.1).toArray) hoL
    have perm := List.mergeSort_perm ps (PySem.W.dataLe false fun b : Addr × K3 => enc3 b.2)
    refine wpAny_pure ⟨_, rfl, .ref h'.objs.size, upd H h'.objs.size (.lst ((ps.mergeSort (PySem.W.dataLe false fun b : Addr × K3 => enc3 b.2)).map fun b => V.ref b.1)), I1.laid (t' := tk) (fun b u e => ?_) (Nat.le_refl _) ?_, rfl, q _ _ ?_ (fun b hb => p3 b (perm.mem_iff.mp hb)) (I1.hok.fresh (Nat.le_refl _))⟩
    · have hb : b < h'.objs.size := Heap.lt_size e
      rw [sortedHeap_old (Nat.ne_of_lt hb) (by rw [Heap.size_push]; exact Nat.lt_succ_of_lt hb)]
      exact Heap.get?_push_of_some _ e
    · refine ⟨by rw [List.length_map, perm.length_eq]; exact Nat.le_trans (by omega : ps.length ≤ 1000) (by decide), _, e', ?_, he'⟩
      have := vals_refs ((ps.mergeSort (PySem.W.dataLe false fun b : Addr × K3 => enc3 b.2)).map (·.1))
      rw [List.map_map, List.map_map] at this
      exact this
    · have := sort_snd ps
      rw [p2] at this
      exact this
end
end HN

/-! set(xs) of a list of unlike texts, and its length. -/
namespace HN
open PySem L2 PySem.Spec PyProof.Rows
abbrev inTake (xs : List Str) (i : Nat) : Str → Bool := fun y => (xs.take i).any (· == y)
theorem inTake_succ {xs : List Str} {i : Nat} (hi : i < xs.length) (y : Str) : (inTake xs i y || decide (y = xs.getD i Str.empty)) = inTake xs (i + 1) y := by
  have e : xs.take (i + 1) = xs.take i ++ [xs.getD i Str.empty] := by
    rw [List.take_add_one, List.getElem?_eq_getElem hi, List.getD_eq_getElem?_getD, List.getElem?_eq_getElem hi]; rfl
  show _ = (xs.take (i + 1)).any (· == y)
  rw [e, List.any_append]
  congr 1
  simp only [List.any_cons, List.any_nil, Bool.or_false]
  by_cases q : y = xs.getD i Str.empty
  · subst q; simp
  · rw [decide_eq_false q]
    exact (beq_eq_false_iff_ne.mpr fun z => q z.symm).symm
theorem not_inTake {xs : List Str} (nd : xs.Nodup) {i : Nat} (hi : i < xs.length) : inTake xs i (xs.getD i Str.empty) = false := by
  cases c : inTake xs i (xs.getD i Str.empty) with
  | false => rfl
  | true =>
    obtain ⟨z, hz, ez⟩ := List.any_eq_true.mp c
    have ez' : z = xs.getD i Str.empty := eq_of_beq ez
    rw [List.getD_eq_getElem?_getD, List.getElem?_eq_getElem hi] at ez'
    have ez2 : z = xs[i] := ez'
    obtain ⟨j, hj⟩ := List.mem_iff_getElem?.mp hz
    rw [List.getElem?_take] at hj
    split at hj
    · rename_i hji
      obtain ⟨l, e⟩ := List.getElem?_eq_some_iff.mp hj
      exact absurd (e.trans ez2) (List.pairwise_iff_getElem.mp nd j i l hi hji)
    · cases hj
section
variable {prog : Program} {w : World} {A : Around} {R : Result → Shared → Prop} {I : Addr} {fp wr : List Addr} {G : Array GenState → Array GenState → Prop} {n : Nat} {P : Nat → Value → Prop} {St' : Nat → Shared → Prop}
theorem loopTx (W : WalksS prog w A.in1 I fp wr G n P St') (S : Addr) (hSf : S ∉ fp) (xs : List Str) (hsz : xs.length = n) (nd : xs.Nodup) (hn : n ≤ 100) (hval : ∀ i v, P i v → ∃ t, v = .str (xs.getD i Str.empty) t) (i : Nat) (s : Shared) (hi : i ≤ n) (hst : St' i s)
    (hS : s.heap.SetOf (PySem.strKind prog w) S (inTake xs i) i) (hR : ∀ s', Moved (S :: wr) G s s' → s'.heap.SetOf (PySem.strKind prog w) S (inTake xs n) n → R (.ok (.ret .none)) s') : codeAny (model prog w) A (.builtin "set.update.loop" ⟨[.ref S, .ref I], []⟩) R s := by
  have keepS : S ∉ wr := fun q => hSf (W.sub _ q)
  have wide : ∀ b ∈ wr, b ∈ S :: wr := fun b q => .tail _ q
  have moved : ∀ {j : Nat} {t t' : Shared}, t.heap.SetOf (PySem.strKind prog w) S (inTake xs j) j → Moved wr G t t' → t'.heap.SetOf (PySem.strKind prog w) S (inTake xs j) j := by
    intro j t t' ⟨o, es, ep, tb, ho, more⟩ hm
    exact ⟨o, es, ep, tb, hm.heap S _ keepS ho, more⟩
  generalize hk : n - i = k
  induction k generalizing i s with
  | zero =>
    obtain rfl : i = n := by omega
    refine codeAny_builtin PyProof.Rows.F.entry_set_update_loop ?_
    rw [Around.under_plainId PyProof.Rows.F.plain_set_update_loop _]
    refine wpAny_bind (m := pyNext (.ref I)) (W.done s _ _ hst fun s' hm => ?_)
    refine wpAny_pure (hR s' (hm.mono wide) (moved hS hm))
  | succ k ih =>
    have lt : i < n := by omega
    refine codeAny_builtin PyProof.Rows.F.entry_set_update_loop ?_
    rw [Around.under_plainId PyProof.Rows.F.plain_set_update_loop _]
    refine wpAny_bind (m := pyNext (.ref I)) (W.item i s _ _ lt hst fun v s' hP hst' hm => ?_)
    obtain ⟨t, rfl⟩ := hval i v hP
    have hS' := moved hS hm
    refine wpAny_bind (m := holding [Value.str (xs.getD i Str.empty) t] (setAdd S (.str (xs.getD i Str.empty) t))) (wpAny_holding ?_)
    unfold setAdd
    refine wpAny_holding (wpAny_bind ((PySem.strKind prog w).pyHash (k := xs.getD i Str.empty) (strKind_is _ _ _ _) ?_))
    refine wpAny_setAddHashed_of (knd := PySem.strKind prog w) (s := { s' with toks := s'.toks + 1 }) (strKind_is _ _ _ _) rfl hS' (by unfold scanBound; omega) fun h' sb new => ?_
    have lx : i < xs.length := by omega
    have new' : h'.SetOf (PySem.strKind prog w) S (inTake xs (i + 1)) (i + 1) := by
      refine SetOf_congr new (fun y => inTake_succ lx y) ?_
      rw [not_inTake nd lx]; simp
    refine wpAny_pure ⟨plainId_quiet PyProof.Rows.F.plain_set_update_loop _, ?_⟩
    refine ih (i + 1) _ lt (W.frame _ s' _ _ hst' (Nat.le_succ _) fun b hb o e => ?_) new' (fun s'' hm2 hS2 => ?_) (by omega)
    · exact (sb.2 b fun q => hSf (q ▸ hb)).trans e
    · refine hR s'' (Moved.trans W.gtrans ((hm.mono wide).then_heap (Nat.le_succ _) fun b o hb e => ?_) hm2) hS2
      exact (sb.2 b fun q => hb (by rw [q]; exact List.mem_cons_self)).trans e
end
section
variable {prog : Program} {w : World} {A : Around} {E : Value → Shared → Prop} {s : Shared}
abbrev newSet (led : Bool) : Obj := { cls := .type "set", dict := none, data := .set #[] 0 (.fresh 0 0 led) }
/-- what stands behind set(xs): the set at the place of the first new object -/
def SetTx (prog : Program) (w : World) (xs : List Str) (s : Shared) (h' : Heap) : Prop := h'.SetOf (PySem.strKind prog w) s.heap.objs.size (inTake xs xs.length) xs.length ∧ ∀ b o, b < s.heap.objs.size → s.heap.get? b = some o → h'.get? b = some o
theorem call_set_tx {l : Addr} {items : Array Value} {xs : List Str} {Q : Value → Shared → Prop} (hh : A.handled = none) (hl : s.heap.IsList l items) (hi : StrsAre items.toList xs) (nd : xs.Nodup) (hn : xs.length ≤ 100)
    (h : ∀ (h' : Heap) (tk : Nat), SetTx prog w xs s h' → Q (.ref s.heap.objs.size) { s with heap := h', toks := tk }) : wpAny (model prog w) A (call (.type "set") [.ref l]) Q E s := by
  have f0 := PySem.F.called_set.mro
  obtain ⟨c, tl, hmro⟩ := f0
  have f1 := PySem.F.called_set.made
  have f2 := PySem.F.called_set.sub
  have f3 := PySem.F.called_set.notType
  have f4 := PySem.F.called_set.canCreate
  have f5 := PySem.F.typeCall_set_1 (.ref l)
  refine wpAny_call (codeAny_of_tree (show wpAny _ _ (callAny (.type "set") _) _ _ _ from ?_))
  refine wpAny_pure ⟨Code.quiet_builtin _ (by decide +kernel), codeAny_builtin PySem.F.entry_type_call ?_⟩
  rw [Around.under_plain (weight_type_call_type "set" [.ref l] []) rfl]
  repeat (any_goals (first | assumption | wp_step))
  refine codeAny_mono (code_set_new_1 (.ref l) (E := E) (Q₁ := fun ob s₁ => ∃ led : Bool, ob = .ref s.heap.objs.size ∧ s₁ = { s with heap := s.heap.push (newSet led) }) fun led => ⟨led, rfl, rfl⟩) fun r s₁ hr => ?_
  obtain ⟨ob, led, rfl, rfl, rfl⟩ | q : (∃ ob led, r = .ok (.ret ob) ∧ ob = .ref s.heap.objs.size ∧ s₁ = { s with heap := s.heap.push (newSet led) }) ∨ ∃ e, r = .error e ∧ E e s₁ := by
    cases r with
    | error e => exact .inr ⟨e, rfl, hr⟩
    | ok fl =>
      cases fl with
      | ret ob => exact .inl (let ⟨led, a, b⟩ := hr; ⟨ob, led, rfl, a, b⟩)
      | _ => exact hr.elim
  case inr =>
    obtain ⟨e, rfl, he⟩ := q
    exact he
  have at0 : (s.heap.push (newSet led)).get? s.heap.objs.size = some (newSet led) := Heap.get?_push_size _ rfl
  have hT : Shared.TypeIs { s with heap := s.heap.push (newSet led) } (.ref s.heap.objs.size) "set" := ⟨_, at0, rfl⟩
  have g1 := PySem.F.called_set.init.lookup
  have g2 := PySem.F.called_set.init.bind (.ref s.heap.objs.size)
  repeat (any_goals (first | assumption | wp_step))
  refine codeAny_mono (codeAny_call_builtin (R := wants (fun r s₂ => r = .none ∧ ∃ h' tk, s₂ = { s with heap := h', toks := tk } ∧ SetTx prog w xs s h') E) PySem.F.called_set.init.plain PySem.F.entry_set_init (check_set_init_1 hT ?_)) fun r₂ s₂ hr₂ => ?_
  · obtain ⟨⟨oc, od, odt, osl⟩, hol, hcl, nl, hdl⟩ := hl
    simp only at hcl hdl
    subst hcl hdl
    have hol' : (s.heap.push (newSet led)).get? l = some { cls := .type "list", dict := od, data := .seq items nl, slots := osl } := Heap.get?_push_of_some _ hol
    have z1 := PySem.F.sub_list_set
    have z2 := PySem.F.sub_list_frozenset
    have z3 : (Value.type "list" == Value.type "dict") = false := by decide
    have hl1 : (s.heap.push (newSet led)).IsList l items := ⟨_, hol', rfl, nl, rfl⟩
    unfold Builtin.«set.__init__» noKeywords Builtin.Frozenset.updateFrom
    generalize hPI : pyIter = PI
    wp_walk
    subst hPI
    refine wpAny_pyIter_list hl1 (wpAny_bind (wpAny_runValue ?_))
    have lS : l < s.heap.objs.size := Heap.lt_size hol
    have sz1 : (s.heap.push (newSet led)).objs.size = s.heap.objs.size + 1 := Heap.size_push ..
    have hsz : xs.length = items.size := by rw [← StrsAre.len_eq hi, Array.length_toList]
    have ne1 : l ≠ (s.heap.push (newSet led)).objs.size := sz1 ▸ Nat.ne_of_lt (Nat.lt_succ_of_lt lS)
    refine loopTx ((Walks.list (show A.in1.in1.in1.handled = none by simp [hh]) _ l ne1 items).toS) s.heap.objs.size ?_ xs hsz nd (by omega) (fun i v hv => SS.strs_at hi i v (by rw [Array.getElem?_toList]; exact hv)) 0 _ (Nat.zero_le _)
      ⟨⟨_, Heap.get?_push_size _ rfl, rfl, rfl⟩, hl1.push _⟩ ?_ ?_
    · rw [sz1]
      simp only [List.mem_cons, List.not_mem_nil, or_false, not_or]
      exact ⟨Nat.ne_of_lt (Nat.lt_succ_self _), Nat.ne_of_gt lS⟩
    · have at1 : ((s.heap.push (newSet led)).push { cls := .type "list_iterator", data := .fields #[.ref l, .int 0 0] }).get? s.heap.objs.size = some (newSet led) := Heap.get?_push_of_some _ at0
      exact SetOf_congr ((setObjOf_fresh (knd := PySem.strKind prog w) led).setOf at1 (by unfold scanBound; omega)) (fun _ => rfl) rfl
    · intro s' hm hS'
      obtain ⟨h', g', d', tk', os'⟩ := s'
      obtain rfl : g' = s.gens := hm.gens
      obtain rfl : d' = s.drawn := hm.drawn
      obtain rfl : os' = s.os := hm.os
      refine wpAny_pure (show wpAny _ _ (ret Value.none) _ _ _ from wpAny_pure ⟨rfl, h', tk', rfl, hsz ▸ hS', fun b o hb e => ?_⟩)
      refine hm.heap b o ?_ (Heap.get?_push_of_some _ (Heap.get?_push_of_some _ e))
      simp only [List.mem_cons, List.not_mem_nil, or_false, not_or]
      exact ⟨Nat.ne_of_lt hb, sz1 ▸ Nat.ne_of_lt (Nat.lt_succ_of_lt hb)⟩
  · cases r₂ with
    | error e => exact hr₂
    | ok fl =>
      cases fl with
      | ret r =>
        obtain ⟨rfl, h', tk, rfl, hS'⟩ := hr₂
        repeat (any_goals (first | assumption | wp_step))
        exact h _ _ hS'
      | _ => exact hr₂.elim
end
/-- len(set(xs)), xs a list of unlike texts -/
def tLenSetTx (K : PySem.W.Frag) (ta : TE) : TE := fun τ H Q => ta τ H fun x H1 => ∃ (l : Addr) (xs : List Str), x = .ref l ∧ SqL K H1 l (xs.map V.str) ∧ xs.Nodup ∧ xs.length ≤ 100 ∧ Q (.int (xs.length : Nat)) H1
theorem pe_lenSetTx {X : Cx} {a : Expr} {ta : TE} {p p2 q pos : Pos} (hc : X.calm = true) (hg : Gl X "len") (hm : X.mg "len" = none) (hg2 : Gl X "set") (hm2 : X.mg "set" = none) (ha : PE X a ta)
    (na : starEach [a] X.env = (false, eval a X.env) :: starEach [] X.env := by rfl) : PE X (.Call (.Name "len" p) [.Call (.Name "set" p2) [a] [] q] [] pos) (tLenSetTx X.K ta) := by
  refine ⟨fun pn s τ H Q I h => Call_ (ld_blt I hg hm boot_len (callWith_builtin1 (args_cons ?_ rfl) rfl rfl))⟩
  refine Call_ (ld_blt I hg2 hm2 boot_set (callWith_type1 (args_cons (thn (ha.run pn s τ H _ I h) fun v s1 ⟨x, H1, I1, r1, q1⟩ => args_nil ?_) na) na rfl))
  obtain ⟨l, xs, rfl, hq, nd, h1, q1⟩ := q1
  cases r1
  obtain ⟨its, r, pl, _⟩ := I1.list hq
  refine call_set_tx (I1.ok.hd hc) pl.isList (by simpa using strsAre_of r) nd h1 fun h' tk ⟨hS, hk⟩ => args_nil ?_
  obtain ⟨o, es, ep, t, ho, hex, hd, _, _, _, hf, hn⟩ := hS
  have I2 : Inv X pn τ H1 { s1 with heap := h', toks := tk } := I1.kept fun b o e => hk b o (Heap.lt_size e) e
  exact call_len_set ho hex hd hf (by rw [hn]; omega) ⟨.int xs.length, H1, I2.tok _, ⟨_, by rw [hn]⟩, q1⟩
end HN

/-! Rules of my own: a list comprehension with three fors. -/
namespace HN
open PySem L2 PySem.Spec PyProof.Rows
abbrev nvr : Value → Shared → Prop := fun _ _ => False
/-- a loop of a comprehension's clause: from its turns; BR: what its body's run is to reach -/
def LoopRule (prog : Program) (w : World) (A : Around) (c : Expr) (k : Nat) (t : Expr) (ifs : List Expr) (it acc : Value) (env : Env) (BR : (Shared → Prop) → Shared → Prop) : Prop :=
  ∀ (R : Result → Shared → Prop) (I : Nat → Shared → Prop),
    (∀ n s, I n s → wpAny (model prog w) A (pyNext it) (fun r s₁ => match r with
      | none => R (.ok .next) s₁
      | some v => wpAny (model prog w) A (letOwnedTupleGo t it v) (fun _ s₁' => wpAny (model prog w) A (assign t env v) (fun _ s₂ =>
          wpAny (model prog w) A (forIn ifs true fun c r => if r = true then do let ok ← isTrue c env (eval c env); pure (ForInStep.yield ok) else pure (ForInStep.yield r)) (fun ok s₃ =>
            if ok = true then BR (fun s' => ∃ m, m < n ∧ I m s') s₃ else ∃ m, m < n ∧ I m s₃) nvr s₂) nvr s₁') nvr s₁) nvr s) →
    ∀ n s, I n s → codeAny (model prog w) A (.compLoop c k it acc env) R s
section
variable {prog : Program} {w : World} {A : Around} {elt t i1 : Expr} {gs : List Comprehension} {scope : Scope} {cp : Pos} {ip jp : Pos} {ifs : List Expr} {k : Nat} {it acc : Value} {env : Env}
def brMid (prog : Program) (w : World) (A : Around) (c i1 : Expr) (k : Nat) (acc : Value) (env : Env) (P : Shared → Prop) (s : Shared) : Prop :=
  wpAny (model prog w) A (eval i1 env) (fun x s₄ => wpAny (model prog w) A (pyIter x) (fun it1 s₅ =>
    codeAny (model prog w) A (.compStart c (k + 1) it1 acc env) (fun r s' => match r with
      | .ok _ => P s'
      | .error _ => False) s₅) nvr s₄) nvr s
def brLeaf (prog : Program) (w : World) (A : Around) (elt : Expr) (acc : Value) (env : Env) (P : Shared → Prop) (s : Shared) : Prop :=
  wpAny (model prog w) A (eval elt env) (fun x s₄ => wpAny (model prog w) A (call (.builtin "list.append") [acc, x]) (fun _ s₅ => P s₅) nvr s₄) nvr s
theorem rule_mid (hs : ∀ x, foldedSetIterable i1 env x = pure x) (hT : compTurn (.ListComp elt gs scope cp) k it acc env = (do
      standAt ip
      match ← pyNext it with
      | none => pure (.done .next)
      | some v =>
        letOwnedTupleGo t it v
        assign t env v
        let mut ok := true
        for c in ifs do
          if ok then ok ← isTrue c env (eval c env)
        if ok then
          let x ← eval i1 env
          standAt jp
          let x ← foldedSetIterable i1 env x
          let _ ← runOwn (.compStart (.ListComp elt gs scope cp) (k + 1) (← holding [x] (pyIter x)) acc env) env
        again (.compLoop (.ListComp elt gs scope cp) k it acc env))) : LoopRule prog w A (.ListComp elt gs scope cp) k t ifs it acc env (brMid prog w A (.ListComp elt gs scope cp) i1 k acc env) := by
  intro R I turn n s h
  refine codeAny_loop rfl I (fun n s hI => ?_) n h
  show wpAny _ A ((compTurn (.ListComp elt gs scope cp) k it acc env).onRaise (fun x => do noteFrame x env; theTreesLotGoes x)) _ _ s
  refine wpAny_noted ?_
  rw [hT]
  refine wpAny_bind (wpAny_standAt (wpAny_bind (wpAny_mono (turn n s hI) (fun r s₁ h₁ => ?_) fun _ _ h' => h'.elim)))
  cases r with
  | none => exact wpAny_pure h₁
  | some v =>
    refine wpAny_bind (wpAny_mono h₁ (fun _ s₁' h₁' => ?_) fun _ _ h' => h'.elim)
    refine wpAny_bind (wpAny_mono h₁' (fun _ s₂ h₂ => wpAny_bind (wpAny_mono h₂ (fun ok s₃ h₃ => ?_) fun _ _ h' => h'.elim)) fun _ _ h' => h'.elim)
    cases ok with
    | false => exact wpAny_pure ⟨rfl, h₃⟩
    | true =>
      refine wpAny_bind (wpAny_mono (show brMid prog w A (.ListComp elt gs scope cp) i1 k acc env _ s₃ from h₃) (fun x s₄ h₄ => ?_) fun _ _ h' => h'.elim)
      refine wpAny_bind (wpAny_standAt (wpAny_bind (wpAny_of_eq (hs x) (wpAny_bind (wpAny_holding (wpAny_mono h₄ (fun it1 s₅ h₅ => ?_) fun _ _ h' => h'.elim))))))
      refine wpAny_bind (wpAny_runOwn ?_)
      rw [Around.mark_none]
      refine codeAny_mono h₅ fun r s' hr => ?_
      cases r with
      | ok f =>
        first
          | exact wpAny_pure ⟨rfl, hr⟩
          | exact wpAny_bind (wpAny_pure (wpAny_pure ⟨rfl, hr⟩))
      | error e => exact hr.elim
theorem rule_leaf (hT : compTurn (.ListComp elt gs scope cp) k it acc env = (do
      standAt ip
      match ← pyNext it with
      | none => pure (.done .next)
      | some v =>
        letOwnedTupleGo t it v
        assign t env v
        let mut ok := true
        for c in ifs do
          if ok then ok ← isTrue c env (eval c env)
        if ok then
          (do let _ ← call (.builtin "list.append") [acc, ← eval elt env])
        again (.compLoop (.ListComp elt gs scope cp) k it acc env))) : LoopRule prog w A (.ListComp elt gs scope cp) k t ifs it acc env (brLeaf prog w A elt acc env) := by
  intro R I turn n s h
  refine codeAny_loop rfl I (fun n s hI => ?_) n h
  show wpAny _ A ((compTurn (.ListComp elt gs scope cp) k it acc env).onRaise (fun x => do noteFrame x env; theTreesLotGoes x)) _ _ s
  refine wpAny_noted ?_
  rw [hT]
  refine wpAny_bind (wpAny_standAt (wpAny_bind (wpAny_mono (turn n s hI) (fun r s₁ h₁ => ?_) fun _ _ h' => h'.elim)))
  cases r with
  | none => exact wpAny_pure h₁
  | some v =>
    refine wpAny_bind (wpAny_mono h₁ (fun _ s₁' h₁' => ?_) fun _ _ h' => h'.elim)
    refine wpAny_bind (wpAny_mono h₁' (fun _ s₂ h₂ => wpAny_bind (wpAny_mono h₂ (fun ok s₃ h₃ => ?_) fun _ _ h' => h'.elim)) fun _ _ h' => h'.elim)
    cases ok with
    | false => exact wpAny_pure ⟨rfl, h₃⟩
    | true =>
      exact wpAny_bind (wpAny_bind (wpAny_mono (show brLeaf prog w A elt acc env _ s₃ from h₃) (fun x s₄ h₄ => wpAny_bind (wpAny_mono h₄ (fun _ s₅ h₅ => wpAny_pure (wpAny_pure ⟨rfl, h₅⟩)) fun _ _ h' => h'.elim)) fun _ _ h' => h'.elim))
end
/-- what a clause's loop asks: bd: what its body asks -/
def lpT (J : It) (g : TG) (tt : TT) (bd : L2.St → Hp → (Hp → Prop) → Prop) (vs : List Nat) (σ : L2.St) (Fin : Hp → Prop) (H0 : Hp) : Prop := ∃ W : Nat → Nat → Hp → Prop, (∃ m, W 0 m H0) ∧ ∀ j k H, W j k H →
  (J.stop j H ∧ Fin H) ∨ (J.go j H ∧ ∃ N : Hp → Prop, (∀ H', N H' → ∃ k', k' < k ∧ W (j + 1) k' H') ∧ ∀ x H', J.yld j H x H' → g x (wipe σ vs) H' fun σ3 H5 => wipe σ3 vs = wipe σ vs ∧ tt σ3 H5 fun b H6 =>
    if b = true then bd σ3 H6 N else N H6)
/-- what a clause's body is good for: slots of vb may be lost -/
def BodyOk (B : Cx) (BR : (Shared → Prop) → Shared → Prop) (bd : L2.St → Hp → (Hp → Prop) → Prop) (vb : List Nat) : Prop := ∀ (pins : List (Addr × Obj)) (σ : L2.St) (H : Hp) (s : Shared) (N : Hp → Prop), Inv B pins σ H s → bd σ H N → BR (fun s' => ∃ H', Inv B pins (wipe σ vb) H' s' ∧ N H') s
theorem wipe_w {σ : L2.St} {vs vb : List Nat} {σ3 : L2.St} (h : wipe σ3 vs = wipe σ vs) (hv : ∀ i ∈ vb, i ∈ vs) : (wipe σ vs).length = (wipe σ3 vb).length ∧ ∀ (j : Nat) v, (wipe σ vs)[j]? = some (some v) → (wipe σ3 vb)[j]? = some (some v) := by
  refine ⟨by rw [← h, wipe_length, wipe_length], fun j v e => ?_⟩
  rw [← h] at e
  obtain ⟨e1, e2⟩ := wipe_some e
  rw [wipe_out fun z => e2 (hv j z)]
  exact e1
theorem level {B : Cx} {c t : Expr} {k : Nat} {ifs : List Expr} {it : Addr} {acc : Value} {BR : (Shared → Prop) → Shared → Prop} {g : TG} {tt : TT} {bd : L2.St → Hp → (Hp → Prop) → Prop} {vs vb : List Nat} {fp : List Addr} {tn : Nat → Heap → Prop} {J : It} {pins : List (Addr × Obj)} {σ : L2.St} {H : Hp} {s : Shared} {Fin : Hp → Prop}
    (hc : B.calm = true) (hxe : B.xe = nvr) (L : LoopRule B.prog B.w B.A c k t ifs (.ref it) acc B.env BR) (mono : ∀ (P P' : Shared → Prop) s, (∀ s, P s → P' s) → BR P s → BR P' s) (pg : PG B t g) (pt : PTs B ifs tt) (hb : BodyOk B BR bd vb) (hv : ∀ i ∈ vb, i ∈ vs)
    (T : Turn B.prog B.w B.K t J fp it tn) (st : tn 0 s.heap) (stat : ∀ {σ' : L2.St} {H' : Hp} {s' : Shared}, Inv B pins σ' H' s' → (∀ b ∈ fp, H' b = none) → ∀ b ∈ fp, FpOk B pins H' b) (nfp : ∀ b ∈ fp, H b = none) (I : Inv B pins (wipe σ vs) H s) (h : lpT J g tt bd vs σ Fin H) :
    codeAny (model B.prog B.w) B.A (.compLoop c k (.ref it) acc B.env) (fun r s' => r = .ok .next ∧ ∃ H', Inv B pins (wipe σ vs) H' s' ∧ Fin H') s := by
  obtain ⟨W, ⟨m0, w0⟩, turn⟩ := h
  have pgr := @PG.run _ _ _ pg
  have ptr := @PTs.run _ _ _ pt
  rw [hxe] at pgr ptr
  refine L _ (fun n s' => ∃ i H', Inv B pins (wipe σ vs) H' s' ∧ tn i s'.heap ∧ (∀ b ∈ fp, H' b = none) ∧ W i n H') ?_ m0 s ⟨0, H, I, st, nfp, w0⟩
  rintro n s5 ⟨i, H5, I5, st5, n5, w5⟩
  rcases turn i n H5 w5 with ⟨stop, fin⟩ | ⟨go, N, hN, step⟩
  · refine thnF (T.done B rfl rfl rfl hc i pins s5 _ H5 nvr I5 (stat I5 n5) st5 stop) fun r s6 ⟨hr, I6⟩ => ?_
    subst hr
    exact ⟨rfl, H5, I6, fin⟩
  · refine thnF (T.item B rfl rfl rfl hc i pins s5 _ H5 nvr I5 (stat I5 n5) st5 go) fun r s6 ⟨u, hr, h6⟩ => ?_
    subst hr
    refine thnF h6 fun _ s7 ⟨x, H7, I7, r7, y7, st7, n7⟩ => ?_
    have I7' := I7.pinned (stat I7 n7) (T.obj _ _ st7)
    refine thnF (pgr _ s7 _ H7 x u _ I7' r7 (step x H7 y7)) fun _ s8 ⟨σ8, H8, I8, hw8, q8⟩ => ?_
    refine thnF (ptr _ s8 σ8 H8 _ I8 q8) fun b s9 ⟨H9, I9, q9⟩ => ?_
    have fin : ∀ {σ9 : L2.St} {s' : Shared} {H' : Hp}, Inv B (pins ++ pinsAt fp s7.heap) σ9 H' s' → (wipe σ vs).length = σ9.length → (∀ (j : Nat) v, (wipe σ vs)[j]? = some (some v) → σ9[j]? = some (some v)) → N H' →
        ∃ m, m < n ∧ ∃ i H', Inv B pins (wipe σ vs) H' s' ∧ tn i s'.heap ∧ (∀ b ∈ fp, H' b = none) ∧ W i m H' := fun {σ9 s' H'} I' hl hk nx => by
      obtain ⟨m', hm, w'⟩ := hN H' nx
      have pin' : ∀ b ∈ fp, ∀ o, s7.heap.get? b = some o → s'.heap.get? b = some o ∧ H' b = none := fun b hb o e =>
        let z := I'.pin (b, o) (List.mem_append_right _ (List.mem_append_right _ (mem_pinsAt hb e)))
        ⟨z.1, z.2.1⟩
      refine ⟨m', hm, i + 1, H', (I'.unpinned).weak hl hk, T.keep _ _ _ st7 fun b hb o e => (pin' b hb o e).1, fun b hb => ?_, w'⟩
      obtain ⟨o, e, _⟩ := T.obj _ _ st7 b hb
      exact (pin' b hb o e).2
    cases b with
    | false =>
      simp only [Bool.false_eq_true, if_false] at q9 ⊢
      have z := wipe_w (vb := []) hw8 (fun _ h => nomatch h)
      exact fin I9 z.1 z.2 q9
    | true =>
      simp only [if_true] at q9 ⊢
      have z := wipe_w hw8 hv
      exact mono _ _ _ (fun s' ⟨H', I', nx⟩ => fin I' z.1 z.2 nx) (hb _ σ8 H9 s9 N I9 q9)
theorem mono_leaf {prog : Program} {w : World} {A : Around} {elt : Expr} {acc : Value} {env : Env} (P P' : Shared → Prop) (s : Shared) (h : ∀ s, P s → P' s) (b : brLeaf prog w A elt acc env P s) : brLeaf prog w A elt acc env P' s :=
  thnF b fun _ _ q => thnF q fun _ _ q => h _ q
theorem mono_mid {prog : Program} {w : World} {A : Around} {c i1 : Expr} {k : Nat} {acc : Value} {env : Env} (P P' : Shared → Prop) (s : Shared) (h : ∀ s, P s → P' s) (b : brMid prog w A c i1 k acc env P s) : brMid prog w A c i1 k acc env P' s :=
  thnF b fun _ _ q => thnF q fun _ _ q => codeAny_mono q fun r s' hr => by
    cases r with
    | ok f => exact h _ hr
    | error e => exact hr.elim
/-- the element goes to the list's end -/
def bdLeaf (te : TE) (D : Addr) : L2.St → Hp → (Hp → Prop) → Prop := fun σ H N => te σ H fun y H4 => ∃ acc, H4 D = some (.lst acc) ∧ acc.length < sizeLine ∧ N (upd H4 D (.lst (acc ++ [y])))
def bdMid (wi : TI) (g : TG) (tt : TT) (bd : L2.St → Hp → (Hp → Prop) → Prop) (vs : List Nat) : L2.St → Hp → (Hp → Prop) → Prop := fun σ H N => wi σ H fun J H1 => lpT J g tt bd vs σ N H1
theorem body_leaf {B : Cx} {elt : Expr} {te : TE} {D : Addr} (hxe : B.xe = nvr) (pe : PE B elt te) : BodyOk B (brLeaf B.prog B.w B.A elt (.ref D) B.env) (bdLeaf te D) [] := by
  intro pins σ H s N I h
  have per := @PE.run _ _ _ pe
  rw [hxe] at per
  refine thnF (per _ s σ H _ I h) fun z s1 ⟨yv, H1, I1, r1, acc, hD, hz, nx⟩ => ?_
  exact app_ok (X := B) I1 hD hz r1 fun s2 I2 => ⟨_, I2, nx⟩
theorem body_mid {B : Cx} {c t1 i1 : Expr} {k : Nat} {ifs1 : List Expr} {D : Addr} {BR : (Shared → Prop) → Shared → Prop} {wi : TI} {g : TG} {tt : TT} {bd : L2.St → Hp → (Hp → Prop) → Prop} {vs vb : List Nat} (hc : B.calm = true) (hxe : B.xe = nvr) (L : ∀ it, LoopRule B.prog B.w B.A c (k + 1) t1 ifs1 (.ref it) (.ref D) B.env BR) (mono : ∀ (P P' : Shared → Prop) s, (∀ s, P s → P' s) → BR P s → BR P' s)
    (S : ∀ (it : Value) (R : Result → Shared → Prop) (s : Shared), codeAny (model B.prog B.w) B.A (.compLoop c (k + 1) it (.ref D) B.env) R s → wpAny (model B.prog B.w) B.A (pyIter it) (fun it' s' => codeAny (model B.prog B.w) B.A (.compLoop c (k + 1) it' (.ref D) B.env) R s') (notedBy (model B.prog B.w) B.A B.env fun x s' => R (.error x) s') s → codeAny (model B.prog B.w) B.A (.compStart c (k + 1) it (.ref D) B.env) R s)
    (hi : PI B t1 i1 wi) (pg : PG B t1 g) (pt : PTs B ifs1 tt) (hb : BodyOk B BR bd vb) (hv : ∀ i ∈ vb, i ∈ vs) : BodyOk B (brMid B.prog B.w B.A c i1 k (.ref D) B.env) (bdMid wi g tt bd vs) vs := by
  intro pins σ H s N I h
  have hir := @PI.run _ _ _ _ hi
  rw [hxe] at hir
  refine thnF (hir pins s σ H _ I h) fun xv s1 hx => thnF hx fun itv s2 h2 => ?_
  obtain ⟨it, fp, tn, J, H2, e, I2, T, st2, f2, q⟩ := h2
  subst e
  have loop := level (vs := vs) (σ := σ) hc hxe (L it) mono pg pt hb hv T st2 (fun {σ' H' s'} I' n b hb => ⟨n b hb, (f2 b hb).2⟩) (fun b hb => (f2 b hb).1) (I2.weak (wipe_length _ _) (fun j v e => (wipe_some e).1)) q
  have loop' : codeAny (model B.prog B.w) B.A (.compLoop c (k + 1) (.ref it) (.ref D) B.env) (fun r s' => match r with
      | .ok _ => ∃ H', Inv B pins (wipe σ vs) H' s' ∧ N H'
      | .error _ => False) s2 := codeAny_mono loop fun r s' ⟨e, h⟩ => by subst e; exact h
  exact S _ _ _ loop' (T.self B.A 0 _ _ _ st2 loop')
section
variable {X : Cx}
def tLc3 (wi : TI) (g : TG) (tt : TT) (wi1 : TI) (g1 : TG) (tt1 : TT) (wi2 : TI) (g2 : TG) (tt2 : TT) (te : TE) (vs vs1 vs2 : List Nat) : TE := fun σ H Q => wi σ H fun J H1 => ∀ D, H1 D = none →
  lpT J g tt (bdMid wi1 g1 tt1 (bdMid wi2 g2 tt2 (bdLeaf te D) vs2) vs1) vs σ (Q (.ref D)) (upd H1 D (.lst []))
abbrev eLc3 (elt tg iter tg1 iter1 tg2 iter2 : Expr) (ifs ifs1 ifs2 : List Expr) (scope : Scope) (pos : Pos) : Expr := .ListComp elt [⟨tg, iter, ifs, 0⟩, ⟨tg1, iter1, ifs1, 0⟩, ⟨tg2, iter2, ifs2, 0⟩] scope pos
theorem start3 {prog : Program} {w : World} {A : Around} {R : Result → Shared → Prop} {s : Shared} {elt tg iter tg1 iter1 tg2 iter2 : Expr} {ifs ifs1 ifs2 : List Expr} {scope : Scope} {pos : Pos} {it acc : Value} {env : Env} {k : Nat} (hk : k = 1 ∨ k = 2)
    (h0 : codeAny (model prog w) A (.compLoop (eLc3 elt tg iter tg1 iter1 tg2 iter2 ifs ifs1 ifs2 scope pos) k it acc env) R s)
    (h : wpAny (model prog w) A (pyIter it) (fun it' s' => codeAny (model prog w) A (.compLoop (eLc3 elt tg iter tg1 iter1 tg2 iter2 ifs ifs1 ifs2 scope pos) k it' acc env) R s') (notedBy (model prog w) A env fun x s' => R (.error x) s') s) :
    codeAny (model prog w) A (.compStart (eLc3 elt tg iter tg1 iter1 tg2 iter2 ifs ifs1 ifs2 scope pos) k it acc env) R s := by
  rcases hk with rfl | rfl
  · refine codeAny_of_tree ?_
    show wpAny _ _ ((compStart (eLc3 elt tg iter tg1 iter1 tg2 iter2 ifs ifs1 ifs2 scope pos) 1 it acc env).onRaise (fun x => do noteFrame x env; standAt theWindowsPlace)) _ _ s
    refine wpAny_notedAt ?_
    unfold compStart
    show wpAny _ _ (ask >>= _) _ _ s
    refine wpAny_bind (wpAny_askSetting (wpAny_ite ?_))
    split
    · first
        | exact wpAny_bind (wpAny_pure (wpAny_pure (And.intro rfl h0)))
        | exact wpAny_pure (And.intro rfl h0)
    · first
        | exact wpAny_bind (wpAny_rule (wpAny_bind (wpAny_standAt (wpAny_bind (wpAny_mono h (fun it' s' h' => wpAny_pure (And.intro rfl h')) fun _ _ x => x)))))
        | (refine wpAny_bind (wpAny_rule ?_); show wpAny _ _ (standAt iter1.pos >>= _) _ _ s; exact wpAny_bind (wpAny_standAt (wpAny_bind (wpAny_mono h (fun it' s' h' => wpAny_pure (And.intro rfl h')) fun _ _ x => x))))
  · refine codeAny_of_tree ?_
    show wpAny _ _ ((compStart (eLc3 elt tg iter tg1 iter1 tg2 iter2 ifs ifs1 ifs2 scope pos) 2 it acc env).onRaise (fun x => do noteFrame x env; standAt theWindowsPlace)) _ _ s
    refine wpAny_notedAt ?_
    unfold compStart
    show wpAny _ _ (ask >>= _) _ _ s
    refine wpAny_bind (wpAny_askSetting (wpAny_ite ?_))
    split
    · first
        | exact wpAny_bind (wpAny_pure (wpAny_pure (And.intro rfl h0)))
        | exact wpAny_pure (And.intro rfl h0)
    · first
        | exact wpAny_bind (wpAny_rule (wpAny_bind (wpAny_standAt (wpAny_bind (wpAny_mono h (fun it' s' h' => wpAny_pure (And.intro rfl h')) fun _ _ x => x)))))
        | (refine wpAny_bind (wpAny_rule ?_); show wpAny _ _ (standAt iter2.pos >>= _) _ _ s; exact wpAny_bind (wpAny_standAt (wpAny_bind (wpAny_mono h (fun it' s' h' => wpAny_pure (And.intro rfl h')) fun _ _ x => x))))
abbrev Blk3 (X : Cx) (scope : Scope) (s : Shared) (H : Hp) (C : Addr) (cl : List (Str × Addr)) (fp : List Addr) : Cx := X.blk s H scope (compEnvC scope cl C X.env) fp
theorem lc3_core {pins : List (Addr × Obj)} {s : Shared} {σ : L2.St} {H : Hp} {Q : VK} {elt tg iter tg1 iter1 tg2 iter2 : Expr} {ifs ifs1 ifs2 : List Expr} {scope : Scope} {own : List (Str × Nat)} {vs1 vs2 : List Nat} {pos pos' : Pos} {wi wi1 wi2 : TI} {g g1 g2 : TG} {tt tt1 tt2 : TT} {te : TE} {use : Option (Value → Sem Unit)} {Qf : Value → Shared → Prop}
    (hc : X.calm = true) (hN : X.N.Nodup) (I : Inv X pins σ H s) (hi : PI X tg iter wi) (ok : BlkOk X.N X.env.scope scope own) (hv : ∀ i ∈ vs1, i ∈ own.map (·.2)) (hv2 : ∀ i ∈ vs2, i ∈ vs1)
    (hg : ∀ s H C cl fp, PG (Blk3 X scope s H C cl fp) tg g) (ht : ∀ s H C cl fp, PTs (Blk3 X scope s H C cl fp) ifs tt)
    (he : ∀ s H C cl fp, PE (Blk3 X scope s H C cl fp) elt te) (hs : ∀ x, foldedSetIterable iter X.env x = pure x)
    (hi1 : ∀ s H C cl fp, PI (Blk3 X scope s H C cl fp) tg1 iter1 wi1) (hg1 : ∀ s H C cl fp, PG (Blk3 X scope s H C cl fp) tg1 g1) (ht1 : ∀ s H C cl fp, PTs (Blk3 X scope s H C cl fp) ifs1 tt1) (hs1 : ∀ env x, foldedSetIterable iter1 env x = pure x)
    (hi2 : ∀ s H C cl fp, PI (Blk3 X scope s H C cl fp) tg2 iter2 wi2) (hg2 : ∀ s H C cl fp, PG (Blk3 X scope s H C cl fp) tg2 g2) (ht2 : ∀ s H C cl fp, PTs (Blk3 X scope s H C cl fp) ifs2 tt2) (hs2 : ∀ env x, foldedSetIterable iter2 env x = pure x)
    (h : tLc3 wi g tt wi1 g1 tt1 wi2 g2 tt2 te (own.map (·.2)) vs1 vs2 σ H Q)
    (hRR : ∀ D C s' m H', Inv X pins σ H' s' → Q (.ref D) H' → s'.heap.Ns C m → FpOk X pins H' C → compPost (model X.prog X.w) X.A X.xe use Qf (.ref D) C (.ok .next) s') :
    wpAny (model X.prog X.w) X.A (comprehension (eLc3 elt tg iter tg1 iter1 tg2 iter2 ifs ifs1 ifs2 scope pos) scope X.env pos' (newList []) false (eval iter X.env) use) Qf X.xe s := by
  have hfree : ∀ y ∈ scope.names, y.2 = .free → ∃ c, X.env.cells.lookup y.1 = some c := fun y hy e => by
    rcases ok.free y hy e with k | k
    · exact I.ok.has _ (.inl k)
    · exact I.ok.has _ (.inr k)
  refine wpAny_comprehension_free (use := use) rfl hs (closure_ok hfree) ok.kind (fun y hy e => by rw [ok.uniq y hy, e])
    (thn (hi.run pins s σ H _ I h) fun xv s1 hx => thn hx fun itv s2 h2 => ?_)
  obtain ⟨it, fp, tn, J, H2, e, I2, T, st2, f2, q⟩ := h2
  subst e
  refine wpAny_newObj_type (newEnv_comp ?_) (by show 0 ≤ sizeLine; decide)
  generalize hD : s2.heap.objs.size = D
  have hDn : H2 D = none := I2.hok.fresh (Nat.le_of_eq hD)
  have q := q D hDn
  generalize hs3 : ({ s2 with heap := s2.heap.push { cls := .type "list", data := .seq ([] : List Value).toArray } } : Shared) = s3
  have I3 : Inv X pins σ (upd H2 D (.lst [])) s3 := by
    rw [← hs3]
    refine I2.laid (t' := s2.toks) (fun b o e => Heap.get?_push_of_some _ e) (Nat.le_of_eq hD) ⟨Nat.zero_le _, [], 0, .nil, ?_⟩
    rw [← hD]
    exact Heap.get?_push_size _ rfl
  have h3 : s3.heap = s2.heap.push { cls := .type "list", data := .seq ([] : List Value).toArray } := by rw [← hs3]
  have sz : ∀ b ∈ fp, b < s2.heap.objs.size := fun b hb => by
    obtain ⟨o, e, _⟩ := T.obj _ _ st2 b hb
    exact Heap.lt_size e
  have f3 : ∀ b ∈ fp, FpOk X pins (upd H2 D (.lst [])) b ∧ b < s3.heap.objs.size := fun b hb => by
    have hlt := sz b hb
    refine ⟨⟨?_, (f2 b hb).2⟩, by rw [h3, Heap.size_push]; exact Nat.lt_succ_of_lt hlt⟩
    rw [upd_ne (by rw [← hD]; exact Nat.ne_of_lt hlt)]
    exact (f2 b hb).1
  have st3 : tn 0 s3.heap := T.keep _ _ _ st2 fun b _ o e => by rw [h3]; exact Heap.get?_push_of_some _ e
  have I4 := block_start I3 ok hN f3
  obtain ⟨cl, hcl⟩ : ∃ cl, cl = cellsFrom (s3.heap.objs.size + 1) scope.names (cloFrom X.env.cells scope.names []) := ⟨_, rfl⟩
  rw [← hcl] at I4 ⊢
  have pg := hg s3 (upd H2 D (.lst [])) s3.heap.objs.size cl fp
  have pt := ht s3 (upd H2 D (.lst [])) s3.heap.objs.size cl fp
  have pe := he s3 (upd H2 D (.lst [])) s3.heap.objs.size cl fp
  have pi1 := hi1 s3 (upd H2 D (.lst [])) s3.heap.objs.size cl fp
  have pg1 := hg1 s3 (upd H2 D (.lst [])) s3.heap.objs.size cl fp
  have pt1 := ht1 s3 (upd H2 D (.lst [])) s3.heap.objs.size cl fp
  have pi2 := hi2 s3 (upd H2 D (.lst [])) s3.heap.objs.size cl fp
  have pg2 := hg2 s3 (upd H2 D (.lst [])) s3.heap.objs.size cl fp
  have pt2 := ht2 s3 (upd H2 D (.lst [])) s3.heap.objs.size cl fp
  show codeAny _ _ (.compStart (eLc3 elt tg iter tg1 iter1 tg2 iter2 ifs ifs1 ifs2 scope pos) 0 (.ref it) (.ref D) (compEnvC scope cl s3.heap.objs.size X.env)) (compPost (model X.prog X.w) X.A X.xe use Qf (.ref D) s3.heap.objs.size) { s3 with heap := pushCells (s3.heap.push { cls := .type "dict", data := .dict #[] }) scope.names }
  have nfp : ∀ b ∈ fp, (upd H2 D (.lst [])) b = none := fun b hb => (f3 b hb).1.1
  simp only [Blk3] at pg pt pe pi1 pg1 pt1 pi2 pg2 pt2
  generalize hce : compEnvC scope cl s3.heap.objs.size X.env = ce at I4 pg pt pe pi1 pg1 pt1 pi2 pg2 pt2 ⊢
  have cL : ce.locals = s3.heap.objs.size := by subst hce; rfl
  generalize hH3 : upd H2 D (.lst []) = H3 at I3 I4 pg pt pe pi1 pg1 pt1 pi2 pg2 pt2 q nfp f3
  generalize hs4 : ({ s3 with heap := pushCells (s3.heap.push { cls := .type "dict", data := .dict #[] }) scope.names } : Shared) = s4 at I4 ⊢
  have st4 : tn 0 s4.heap := T.keep _ _ _ st3 fun b _ o e => by rw [← hs4]; exact pushCells_keeps _ _ _ _ (Heap.get?_push_of_some _ e)
  obtain ⟨B, hB⟩ : ∃ B : Cx, B = X.blk s3 H3 scope ce fp := ⟨_, rfl⟩
  have hc' : B.calm = true := by rw [hB]; exact hc
  have stat : ∀ {σ' : L2.St} {H' : Hp} {s' : Shared}, Inv (X.blk s3 H3 scope ce fp) [] σ' H' s' → (∀ b ∈ fp, H' b = none) → ∀ b ∈ fp, FpOk (X.blk s3 H3 scope ce fp) [] H' b := fun {σ' H' s'} I' hn b hb =>
    ⟨hn b hb, (I'.ok.exf b hb).1, I'.ok.exfs b hb, .inl hb, fun x c e => (I'.ok.exf b hb).2 x c e, fun p hp => absurd (show p ∈ ([] : List (Addr × Obj)) ++ [] from hp) (by simp)⟩
  have lp := level (B := X.blk s3 H3 scope ce fp) (c := eLc3 elt tg iter tg1 iter1 tg2 iter2 ifs ifs1 ifs2 scope pos) (k := 0) (acc := .ref D) (vs := own.map (·.2)) (σ := σ) (pins := []) (BR := brMid X.prog X.w X.A (eLc3 elt tg iter tg1 iter1 tg2 iter2 ifs ifs1 ifs2 scope pos) iter1 0 (.ref D) ce) hc rfl
    (rule_mid (ip := iter.pos) (jp := iter1.pos) (hs1 ce) (by rfl)) mono_mid pg pt
    (body_mid (B := X.blk s3 H3 scope ce fp) (c := eLc3 elt tg iter tg1 iter1 tg2 iter2 ifs ifs1 ifs2 scope pos) (k := 0) hc rfl (fun it => rule_mid (ip := iter1.pos) (jp := iter2.pos) (hs2 ce) (by rfl)) mono_mid (fun it R s h0 h => start3 (.inl rfl) h0 h) pi1 pg1 pt1
      (body_mid (B := X.blk s3 H3 scope ce fp) (c := eLc3 elt tg iter tg1 iter1 tg2 iter2 ifs ifs1 ifs2 scope pos) (k := 1) hc rfl (fun it => rule_leaf (ip := iter2.pos) (by rfl)) mono_leaf (fun it R s h0 h => start3 (.inr rfl) h0 h) pi2 pg2 pt2 (body_leaf (D := D) rfl pe) (fun _ h => nomatch h)) hv2) hv T st4 stat nfp I4 q
  have loop : codeAny (model X.prog X.w) X.A (.compLoop (eLc3 elt tg iter tg1 iter1 tg2 iter2 ifs ifs1 ifs2 scope pos) 0 (.ref it) (.ref D) ce) (compPost (model X.prog X.w) X.A X.xe use Qf (.ref D) s3.heap.objs.size) s4 := by
    refine codeAny_mono lp fun r s6 ⟨e, H5, I6, qq⟩ => ?_
    subst e
    have I7 : Inv X pins σ H5 s6 := I3.call' (ch := fp) I6.os I6.base I6.hok I6.bare fun b hb => ⟨(f3 b hb).1.2.2.2.1, (f3 b hb).1.2.1, (f3 b hb).1.2.2.2.2.1, (f3 b hb).1.2.2.2.2.2⟩
    have nC : H5 s3.heap.objs.size = none := by
      have z : H5 ce.locals = none := I6.free
      rw [cL] at z
      exact z
    obtain ⟨m, hn, _⟩ := I6.loc
    have hn : s6.heap.Ns ce.locals m := hn
    rw [cL] at hn
    exact hRR D s3.heap.objs.size s6 m H5 I7 qq hn (I3.fpOk (Nat.le_refl _) nC)
  exact codeAny_compStart_list loop (T.self X.A 0 _ _ _ st4 loop)
/-- name = [.. for .. for .. for ..] on one line, the name a local -/
theorem ps_setLc3 {i : Nat} {y : Str} {py : Pos} {elt tg iter tg1 iter1 tg2 iter2 : Expr} {ifs ifs1 ifs2 : List Expr} {scope : Scope} {own : List (Str × Nat)} {vs1 vs2 : List Nat} {pos spos : Pos} {wi wi1 wi2 : TI} {g g1 g2 : TG} {tt tt1 tt2 : TT} {te : TE} (hc : X.calm = true) (hN : X.N.Nodup) (hy : X.N[i]? = some y) (hyl : X.env.scope.names.lookup y = some .local)
    (hsw : swapsWith (eLc3 elt tg iter tg1 iter1 tg2 iter2 ifs ifs1 ifs2 scope pos) (some (.Name y py)) spos.line X.env = pure true) (hi : PI X tg iter wi) (ok : BlkOk X.N X.env.scope scope own) (hv : ∀ i ∈ vs1, i ∈ own.map (·.2)) (hv2 : ∀ i ∈ vs2, i ∈ vs1)
    (hg : ∀ s H C cl fp, PG (Blk3 X scope s H C cl fp) tg g) (ht : ∀ s H C cl fp, PTs (Blk3 X scope s H C cl fp) ifs tt)
    (hi1 : ∀ s H C cl fp, PI (Blk3 X scope s H C cl fp) tg1 iter1 wi1) (hg1 : ∀ s H C cl fp, PG (Blk3 X scope s H C cl fp) tg1 g1) (ht1 : ∀ s H C cl fp, PTs (Blk3 X scope s H C cl fp) ifs1 tt1)
    (hi2 : ∀ s H C cl fp, PI (Blk3 X scope s H C cl fp) tg2 iter2 wi2) (hg2 : ∀ s H C cl fp, PG (Blk3 X scope s H C cl fp) tg2 g2) (ht2 : ∀ s H C cl fp, PTs (Blk3 X scope s H C cl fp) ifs2 tt2)
    (he : ∀ s H C cl fp, PE (Blk3 X scope s H C cl fp) elt te) (hs : ∀ x, foldedSetIterable iter X.env x = pure x := by intro _; rfl) (hs1 : ∀ env x, foldedSetIterable iter1 env x = pure x := by intro _ _; rfl) (hs2 : ∀ env x, foldedSetIterable iter2 env x = pure x := by intro _ _; rfl) :
    PS X (.Assign [.Name y py] (eLc3 elt tg iter tg1 iter1 tg2 iter2 ifs ifs1 ifs2 scope pos) spos) (tAsg (tLc3 wi g tt wi1 g1 tt1 wi2 g2 tt2 te (own.map (·.2)) vs1 vs2) (gName i)) := by
  refine ⟨fun pins s σ H D I h => ?_⟩
  rw [exec_Assign_Name_used _ _ _ _ hsw]
  refine wpAny_bind (wpAny_standAt (wpAny_bind ?_))
  show wpAny _ X.A (do let _ ← comprehension (eLc3 elt tg iter tg1 iter1 tg2 iter2 ifs ifs1 ifs2 scope pos) scope X.env (firstIterPos [⟨tg, iter, ifs, 0⟩, ⟨tg1, iter1, ifs1, 0⟩, ⟨tg2, iter2, ifs2, 0⟩] pos) (newList []) false (eval iter X.env) (some (assign (.Name y py) X.env))) _ _ s
  have h : tLc3 wi g tt wi1 g1 tt1 wi2 g2 tt2 te (own.map (·.2)) vs1 vs2 σ H (fun x H1 => gName i x σ H1 D.nx) := h
  refine wpAny_bind (thn (lc3_core (Qf := fun _ s' => SP X pins D .next s') hc hN I hi ok hv hv2 hg ht he hs hi1 hg1 ht1 hs1 hi2 hg2 ht2 hs2 h fun L C s' m H' I' q hn f => ?_) fun _ s' hq => wpAny_pure (wpAny_pure hq))
  show wpAny _ _ (assign (.Name y py) X.env (.ref L)) _ _ _
  refine wpAny_assign_Name (store_ok2 (v := V.ref L) I' hN hy (.inl hyl) rfl (fun s2 I2 ⟨a, sb, ha⟩ => ?_) (.inr hyl))
  obtain ⟨f0, f1, f2, f3, f4, f5⟩ := f
  have haC : C ≠ a := by
    rcases ha with z | z
    · rw [z]; exact f1
    · exact fun e => f4 y a z e.symm
  refine ⟨m, hn.sameBut sb haC, fun h3 sb3 => ?_⟩
  exact ⟨_, H', I2.turned (t' := s2.toks) (fun b o hb e => (sb3.2 b hb).trans e) f0 f1 f3 f4 f5, q⟩
end
end HN

/-! The making of an own error whose first row hands a text to the class above. -/
namespace HN
open PySem PySem.Spec PyProof.Rows L2
/-- the __init__ of an own error, at f -/
structure XFn (P : Program) (K : PySem.W.Frag) (qual : Str) (par fld : Str) (C f : Addr) (fd : FuncData) : Prop where
  ex : ∃ (oc : Value) (od : Option Addr) (params : Arguments) (scope : Scope) (kV doc pm : Value) (an : Option Addr) (cda cc : Addr) (ct : Value) (osl : Array (Option Value)) (ccl cl : Value) (cdd cld : Option Addr) (ccs csl : Array (Option Value)) (vs : Array Value) (file : Str) (tf : Tok)
      (ar : Arg) (msg : Str) (j : Nat) (p0 p1 p2 p3 p4 p5 p6 p7 p8 p9 : Pos) (body : List Stmt),
    fd = PySem.W.ksFn "__init__" qual params body scope .none kV doc pm an (.ref cda) ct cc ∧
    body = [.Expr (.Call (.Attribute (.Call (.Name "super" p0) [] [] p1) "__init__" p2) [.Constant (.str msg) j p3] [] p4) p5, .Assign [.Attribute (.Name "self" p6) fld p7] (.Name par p8) p9] ∧
    (p2.endLine == p4.line) = true ∧ K.lookup f = some ⟨oc, od, .func fd, osl⟩ ∧ PySem.W.codeIn K (.ref cda) qual = true ∧
    K.lookup cc = some ⟨cl, cld, .cell (some (.ref C)), csl⟩ ∧ K.lookup cda = some ⟨ccl, cdd, .fields vs, ccs⟩ ∧ vs[2]? = some (.str file tf) ∧ ((P.main.file : Str) == file) = true ∧
    (params.posonlyargs ++ params.args).head? = some ar ∧ ar.arg = "self" ∧
    scope.kind = .function ∧ scope.isCoroutine = false ∧ scope.isGenerator = false ∧ (∀ y ∈ scope.names, y.2 ≠ .cell) ∧ (∀ y ∈ scope.names, y.2 = .free → y.1 = "__class__") ∧
    scope.names.lookup ("super" : Str) = some .globalImplicit ∧ scope.names.lookup ("__class__" : Str) = some .free ∧ scope.names.lookup ("self" : Str) = some .local ∧ scope.names.lookup par = some .local
/-- what the written part says of the class -/
structure XCl (P : Program) (K : PySem.W.Frag) (mg : Str → Option Value) (fld : Str) (C : Addr) : Prop where
  ox : OexC K C
  up : ∃ cd, PySem.W.clsIn K C = some cd
  su : PySem.W.mroIn K C (.ref C) = some true
  al : PySem.W.ks_superIn K C C "__init__" = some (some (.builtin "ValueError.__init__"))
  ve : PySem.W.subIn K (.ref C) (.type "ValueError") = some true
  op : PySem.W.nsIn K cStatics "thirdparty.any" = some none
  no : PySem.W.findIn K (.ref C) fld = some none
  top : (P.main.scope.names.lookup ("super" : Str)).isSome = false
  mgS : mg "super" = none
section
variable {P : Program} {w : World} {K : PySem.W.Frag} {mg : Str → Option Value} {base : Heap}
abbrev xEnv (qual : Str) (scope : Scope) (L f cda cc : Addr) : Env := PySem.W.ksEnv qual scope L f (.ref cda) cc
def cxX (P : Program) (w : World) (K : PySem.W.Frag) (mg : Str → Option Value) (base : Heap) (N : List Str) (qual : Str) (scope : Scope) (f cda cc : Addr) (A : Around) (outer : List Env) (s : Shared) (H : Hp) : Cx where
  prog := P
  w := w
  K := K
  mg := mg
  base := base
  A := A.deeper (xEnv qual scope s.heap.objs.size f cda cc)
  N := N
  s_0 := s
  H_0 := H
  env := xEnv qual scope s.heap.objs.size f cda cc
  outer := outer
  stack := xEnv qual scope s.heap.objs.size f cda cc :: outer
  ex := []
  calm := true
  fn := fun _ => false
  pn := []
  xe := fun _ _ => False
theorem inv_startX {N : List Str} {par qual : Str} {scope : Scope} {f cda cc C : Addr} {A : Around} {outer : List Env} {s : Shared} {H : Hp} {h1 : Heap} {tk : Nat} {cl : Value} {cld : Option Addr} {csl : Array (Option Value)} {us : List Value} {vs : List V}
    (hN : N = [("self" : Str), par]) (hp : ("self" : Str) ≠ par) (hd : A.handled = none) (e0 : Env0 P w K mg base A outer s H) (hl : vs.length = 2) (r : Vals vs us)
    (hk : scope.kind = .function) (h2 : ∀ y ∈ scope.names, y.2 ≠ .cell) (h3 : ∀ y ∈ scope.names, y.2 = .free → y.1 = "__class__") (hcc : K.lookup cc = some ⟨cl, cld, .cell (some (.ref C)), csl⟩)
    (hns : h1.Ns s.heap.objs.size (fun x => (N.zip us).reverse.lookup x)) (kp : ∀ b o, s.heap.get? b = some o → h1.get? b = some o) (hs : scope.names.lookup ("self" : Str) = some .local) (hq : scope.names.lookup par = some .local) :
    Inv (cxX P w K mg base N qual scope f cda cc A outer s H) [] (L2.start N vs) H { s with heap := h1, toks := tk } := by
  subst hN
  have noA : ∀ b : Addr, b ∉ (cxX P w K mg base [("self" : Str), par] qual scope f cda cc A outer s H).ex := fun b z => absurd (show b ∈ ([] : List Addr) from z) (by simp)
  have KX : K.In s.heap := e0.mod.kin.keeps fun b o e => (e0.bs b o e).1
  have one : ∀ {y : Str} {c : Addr}, (xEnv qual scope s.heap.objs.size f cda cc).cells.lookup y = some c → y = "__class__" ∧ c = cc := fun {y c} e => by
    have e : List.lookup y [(("__class__" : Str), cc)] = some c := e
    by_cases q : y = "__class__"
    · subst q
      simp [List.lookup] at e
      exact ⟨rfl, e.symm⟩
    · have q' : (y == ("__class__" : Str)) = false := beq_eq_false_iff_ne.mpr q
      simp [List.lookup, q'] at e
  have bcc : base.get? cc = some ⟨cl, cld, .cell (some (.ref C)), csl⟩ := e0.mod.kin _ _ hcc
  refine ⟨⟨e0.mod, hk, rfl, rfl, Nat.le_refl _, fun y z c a b => (one a).1.trans (one b).1.symm, fun y hy => ?_, fun y c z _ => ?_, fun _ => hd, Around.frames_deeper e0.frames, .inr ⟨rfl, rfl⟩, fun b z => absurd z (noA b), e0.bs, e0.bsz, fun b _ _ => noA b, fun b z => absurd z (noA b), e0.funs, e0.frf⟩,
    rfl, e0.bare, Un.kept kp, ⟨_, hns, fun i y v a1 a2 a3 => ?_⟩, fun y c e => ?_, e0.hok.fresh (Nat.le_refl _), fun y c e => ?_, fun p hp => absurd (show p ∈ ([] : List (Addr × Obj)) from hp) (by simp), e0.hok.kept kp, ?_⟩
  · have hy : scope.names.lookup y = some .cell ∨ scope.names.lookup y = some .free := hy
    rcases hy with hy | hy
    · exact absurd rfl (h2 _ (PySem.mem_of_lookup hy))
    · have e := h3 _ (PySem.mem_of_lookup hy) rfl
      refine ⟨cc, ?_⟩
      show List.lookup y [(("__class__" : Str), cc)] = some cc
      rw [show y = "__class__" from e]
      simp [List.lookup]
  · exact absurd (show false = true from z) (by simp)
  · have rl := r.length
    obtain ⟨u0, u1, rfl⟩ : ∃ u0 u1, us = [u0, u1] := by
      match us, rl.symm.trans hl with
      | [a, b], _ => exact ⟨a, b, rfl⟩
    obtain ⟨v0, v1, rfl⟩ : ∃ v0 v1, vs = [v0, v1] := by
      match vs, hl with
      | [a, b], _ => exact ⟨a, b, rfl⟩
    have r0 : RelV v0 u0 := by cases r with | cons a _ => exact a
    have r1 : RelV v1 u1 := by cases r with | cons _ b => cases b with | cons a _ => exact a
    have n2 : (("self" : Str) == par) = false := beq_eq_false_iff_ne.mpr hp
    match i, a1, a2 with
    | 0, a1, a2 =>
      have e1 : ("self" : Str) = y := Option.some.inj a1
      have e2 : v0 = v := Option.some.inj (Option.some.inj a2)
      subst e1; subst e2
      refine ⟨u0, r0, .inl ⟨hs, ?_⟩⟩
      show List.lookup ("self" : Str) ([(par, u1), (("self" : Str), u0)] : List (Str × Value)) = some u0
      simp [List.lookup, n2]
    | 1, a1, a2 =>
      have e1 : par = y := Option.some.inj a1
      have e2 : v1 = v := Option.some.inj (Option.some.inj a2)
      subst e1; subst e2
      refine ⟨u1, r1, .inl ⟨hq, ?_⟩⟩
      show List.lookup par [(par, u1), (("self" : Str), u0)] = some u1
      simp [List.lookup]
    | i + 2, a1, a2 =>
      have a1 : ([("self" : Str), par] : List Str)[i + 2]? = some y := a1
      simp at a1
  · obtain ⟨e1, e2⟩ := one e
    exact ⟨_, ⟨_, kp _ _ (e0.bs _ _ (e2 ▸ bcc)).1, rfl⟩⟩
  · obtain ⟨e1, e2⟩ := one e
    exact (e0.bs _ _ (e2 ▸ bcc)).2
  · show (L2.start _ vs).length = _
    unfold L2.start
    rw [List.length_append, List.length_map, List.length_replicate]
    show _ = 2
    simp [hl]
end
theorem super_call {p0 p1 p2 p3 p4 : Pos} {msg : Str} {j : Nat} {env : Env} (hpos : (p2.endLine == p4.line) = true) :
    eval (.Call (.Attribute (.Call (.Name "super" p0) [] [] p1) "__init__" p2) [.Constant (.str msg) j p3] [] p4) env = (do
      let ov ← attributeBase (.Call (.Name "super" p0) [] [] p1) "__init__" env (eval (.Call (.Name "super" p0) [] [] p1) env)
      standAt p2.atName
      let (f, first) ← holding [ov] (getMethod ov "__init__" (do return (← importBound (.Call (.Name "super" p0) [] [] p1) env).getD true))
      callWith p4 f first (backTo p4 (starEach [.Constant (.str msg) j p3] env)) []) := by
  have e : ∀ ov, methodCall (.Call (.Name "super" p0) [] [] p1) "__init__" p2 p4 env ov 1 (backTo p4 (starEach [.Constant (.str msg) j p3] env)) [] = (do
      let (f, first) ← holding [ov] (getMethod ov "__init__" (do return (← importBound (.Call (.Name "super" p0) [] [] p1) env).getD true))
      callWith p4 f first (backTo p4 (starEach [.Constant (.str msg) j p3] env)) []) := fun ov => by
    have few : methodCallForm 1 (backTo p4 (starEach [.Constant (.str msg) j p3] env)) [] = true := rfl
    unfold methodCall methodCallPos calleeOf
    simp only [few, hpos, Bool.not_true, Bool.false_or, if_true]
    rfl
  show (do
      let ov ← attributeBase (.Call (.Name "super" p0) [] [] p1) "__init__" env (eval (.Call (.Name "super" p0) [] [] p1) env)
      standAt p2.atName
      methodCall (.Call (.Name "super" p0) [] [] p1) "__init__" p2 p4 env ov 1 (backTo p4 (starEach [.Constant (.str msg) j p3] env)) []) = _
  simp only [e]
/-- the wrapper of ValueError's making, called: nothing of it is told -/
theorem call_mwVE {X : Cx} {pins : List (Addr × Obj)} {σ : L2.St} {H : Hp} {s : Shared} {u a C : Addr} {rest : List Value} {Q : Value → Shared → Prop} {E : Value → Shared → Prop} {A : Around} (T : OexC X.K C) (I : Inv X pins σ H s) (e : H a = some (exo a C none))
    (hu : s.heap.get? u = some (PySem.W.kxs_mw "ValueError.__init__" a)) (hz : rest.length ≤ sizeLine) (h : ∀ s', Inv X pins σ H s' → Q .none s') : wpAny (model X.prog X.w) A (call (.ref u) rest) Q E s := by
  obtain ⟨nm, q, N, bs, bm, sn, sub, ab, col, dd, k0, k1, k2, k3, k5, hC, hbm⟩ := id T.cls
  obtain ⟨t1, ho⟩ := exo_at I.hok e
  have hC' := I.kIn _ _ hC
  obtain ⟨hp, g, d, tk, os⟩ := s
  have mw1 : (Value.type "method-wrapper" == Value.type "method" || Value.type "method-wrapper" == Value.type "builtin_function_or_method" || Value.type "method-wrapper" == Value.type "method-wrapper") = true := by decide
  refine wpAny_call (codeAny_of_tree (show wpAny _ A.in1 (callAny (.ref u) ⟨rest, []⟩) _ _ _ from ?_))
  simp only [callAny]; refine wpAny_bind (wpAny_load hu ?_)
  simp only [PySem.W.kxs_mw, mw1, if_true]; refine PySem.W.KFB.if_so (by decide) (wpAny_bind (PySem.W.check_bound_init PySem.F.excBase_ValueError.toExcCallFacts hC' ho rfl (wpAny_bind (wpAny_pure (wpAny_pure ?_)))))
  refine ⟨plainId_quiet PySem.F.excBase_ValueError.init.plain _, codeAny_builtin PySem.F.excBase_ValueError.initEntry (PySem.W.exc_init_tree (cls := .ref C) (t0 := t1) (dv := none) (c2 := .none) (c3 := .none) (b4 := .bool false) ho hz fun h' k hx _ => ?_)⟩
  have J := I.write (t' := tk) (x := a) (e := a) (o := exo a C none) (by rw [e]; trivial) (.inl rfl) k ⟨_, hx⟩ (exo_ok hx)
  have eu : upd H a (exo a C none) = H := funext fun b => if hb : b = a then by rw [hb, upd_same, e] else by rw [upd_ne hb]
  rw [eu] at J; exact h _ J
def spXInit (C : Addr) (fld : Str) : Sp := fun vs H Q _ => ∃ (a : Addr) (v : V), vs = [.ref a, v] ∧ H a = some (exo a C none) ∧ ∀ d, H d = none → d ≠ a → Q .non (upd (upd H d (exd d [(fld, v)])) a (exo a C (some d)))
section
variable {P : Program} {w : World} {K : PySem.W.Frag} {mg : Str → Option Value} {base : Heap}
theorem ok_xinit {qual par fld : Str} {C f : Addr} {fd : FuncData} (F : XFn P K qual par fld C f fd) (T : XCl P K mg fld C) (hp : ("self" : Str) ≠ par) (hpd : (par == ("__debug__" : Str)) = false) (hpc : (par == ("__classdict__" : Str)) = false) : FnOk P w K mg base CX0 1 f fd [("self" : Str), par] (spXInit C fld) := by
  refine ⟨fun vs H Q E h => by obtain ⟨a, v, rfl, _⟩ := h; rfl, fun A outer s H args us vs Q E hr e0 hb r hsp => ?_⟩
  obtain ⟨a, v, rfl, ha, k⟩ := hsp
  obtain ⟨oc, od, params, scope, kV, doc, pm, an, cda, cc, ct, osl, ccl, cl, cdd, cld, ccs, csl, vs, file, tf, ar, msg, j, p0, p1, p2, p3, p4, p5, p6, p7, p8, p9, body, rfl, rfl, hpos, lk, hcd, lcc, lcda, hvs, hfile, har, ear, sk, sco, sgen, sc2, sc3, ss, sc, sself, spar⟩ := F.ex
  have KX : K.In s.heap := e0.mod.kin.keeps fun b o e => (e0.bs b o e).1
  have lim : s.heap.NoLimit := e0.mod.nolimit.keeps fun b o e => (e0.bs b o e).1
  refine PySem.ks_codeAny_call_defAt (binds := [("self" : Str), par].zip us) hr.depth (KX _ _ lk) rfl lim (PySem.W.codeRec_of KX hcd) rfl hb sc2 (fun y hy => ?_) (fun h1 hns kp => ?_) sco sgen sk
  · have := (List.of_mem_zip hy).1
    simp only [List.mem_cons, List.not_mem_nil, or_false] at this
    rcases this with e | e <;> rw [e]
    · exact sself
    · exact spar
  have I : Inv (cxX P w K mg base [("self" : Str), par] qual scope f cda cc A outer s H) [] (L2.start [("self" : Str), par] [.ref a, v]) H { s with heap := h1, toks := s.toks + ([("self" : Str), par].zip us).length } :=
    inv_startX rfl hp hr.hd e0 rfl r sk sc2 sc3 lcc hns kp sself spar
  generalize htk : s.toks + ([("self" : Str), par].zip us).length = tk0 at I ⊢
  obtain ⟨u1, rfl⟩ : ∃ u1, us = [.ref a, u1] := by
    cases r with | cons r0 r' => cases r' with | cons r1 r2 => cases r2; cases r0; exact ⟨_, rfl⟩
  obtain ⟨t1, hx⟩ := exo_at I.hok ha
  obtain ⟨nm, q, N, bs, bm, sn, sub, ab, col, dd, k0, k1, k2, k3, k5, hC, hbm⟩ := id T.ox.cls
  obtain ⟨cd, hcdC⟩ := T.up
  obtain ⟨mb, hb1, hb2⟩ := I.mod.blt
  obtain ⟨h0, g, d, tk, os⟩ := s
  have n2 : (("self" : Str) == par) = false := beq_eq_false_iff_ne.mpr hp
  have XK : K.In h1 := KX.keeps kp
  show PySem.wpAt (model P w) (A.deeper (xEnv qual scope h0.objs.size f cda cc)) (.func _ (xEnv qual scope h0.objs.size f cda cc)) (execs _ (xEnv qual scope h0.objs.size f cda cc)) _ _ _
  refine PySem.ks_wpAt_execs_cons ?_
  refine PySem.ks_wpAt_Expr_any (hi := by simp [interactive, sk]) ?_
  refine PySem.ks_wpAt_MethodCall (he := super_call hpos) ?_
  refine PySem.ks_wpAt_super_base ss sc rfl rfl (XK _ _ lk) rfl har rfl (XK _ _ lcda) rfl hvs hfile T.top ?_
  refine PySem.W.ks_loadName_global sk ss (Calls.loadGlobal_builtin (env := xEnv qual scope h0.objs.size f cda cc) (I.mod.glob.keeps I.bk) T.mgS (hb1.keeps I.bk) ((hb2 "super" (by decide)).trans (by decide +kernel : bootBuiltins "super" = some (.type "super"))) ⟨rfl, ?_⟩)
  refine wpAny_loadName_free sk sc rfl ⟨_, XK _ _ lcc, rfl⟩ ?_
  refine wpAny_loadName_local sk (by rw [ear]; exact sself) hns (v := .ref a) (by rw [ear]; show List.lookup ("self" : Str) [(par, u1), (("self" : Str), .ref a)] = _; simp [List.lookup, n2]) ?_
  refine PySem.ks_wpAny_isType_cls (XK _ _ hC) rfl ⟨rfl, ?_⟩
  refine PySem.ks_wpAny_call_super (XK _ _ hC) rfl hx rfl (fun c z => by cases z) (PySem.W.looks_mroIn XK T.su) (fun h2 es k2' => ?_)
  have X2 : K.In h2 := XK.keeps k2'
  have I2 := I.kept (t' := tk0) k2'
  have J2 : PySem.W.InstAt h2 a { cls := .ref C, dict := none, data := .fields #[.ref t1, .none, .none, .none, .bool false, .none] } C none := ⟨k2' _ _ hx, rfl, rfl, trivial⟩
  have hal := T.al
  unfold PySem.W.ks_superIn at hal
  rw [hcdC, Option.bind_some] at hal
  refine PySem.W.kxs_getMethod PySem.W.kxs_ValueError es (PySem.W.looks_opaque X2 T.op) (l₀ := cd.mro) (fun A Q E s k q => wpAny_bind ((PySem.W.looks_clsIn X2 hcdC) A _ E s k (wpAny_pure q))) rfl X2 hal
    (J2.type.andThen (PySem.W.looks_subIn X2 T.ve)) (PySem.W.ks_ne X2 J2 hcdC) rfl ?_
  have k3' : ∀ b o, h2.get? b = some o → (h2.push (PySem.W.kxs_mw "ValueError.__init__" a)).get? b = some o := fun b o e => Heap.get?_push_of_some _ e
  have I3 := I2.kept (t' := tk0 + 1) k3'
  have hu3 : (h2.push (PySem.W.kxs_mw "ValueError.__init__" a)).get? h2.objs.size = some (PySem.W.kxs_mw "ValueError.__init__" a) := Heap.get?_push_size _ rfl
  refine PySem.W.kxs_callWith (i := "ValueError.__init__") (x := a) rfl (Calls.evalArgs_plain (Calls.spliced_cons (wpAny_Constant_str (k := j) (pos := p3) (Calls.spliced_nil ⟨hu3, ?_⟩))))
  refine call_mwVE T.ox (I3.tok _) ha hu3 (by show 1 ≤ sizeLine; decide) fun s4 I4 => ?_
  refine PySem.wpAt_of_wpAny ?_
  refine wpAny_mono ((L2.PSs.run (pss_one (ps_ost (pe_var (i := 0) rfl (.inl sself)) (pe_var (i := 1) rfl (.inl spar) hpd hpc)))) [] s4 _ H { nx := fun _ H' => Q .non H', rt := Q } I4 ?_) (fun fl s' hs => ?_) fun e s' z => False.elim z
  · exact ⟨v, rfl, _, rfl, a, C, rfl, T.ox, T.no, .inl ⟨ha, k⟩⟩
  · cases fl with
    | next =>
      obtain ⟨σ', H', J, q'⟩ := hs
      exact ⟨.non, H', J.os, J.bare, J.base, J.hok, rfl, q'⟩
    | ret u =>
      obtain ⟨v', σ', H', J, rv, q'⟩ := hs
      exact ⟨v', H', J.os, J.bare, J.base, J.hok, rv, q'⟩
    | brk => obtain ⟨_, _, _, z⟩ := hs; exact z.elim
    | cont => obtain ⟨_, _, _, z⟩ := hs; exact z.elim
end
end HN

/-! Several clauses, each with a name for the error: the same name in all of them. -/
namespace HN
open PySem PySem.Spec PyProof.Rows L2
/-- the ends of a suite that begins with the error in slot i: behind it the slot is empty -/
abbrev offI (D : Ends) (i : Nat) : Ends := { nx := fun z u => D.nx (z.set i none) u, rt := D.rt, bk := fun z u => D.bk (z.set i none) u, ct := fun z u => D.ct (z.set i none) u }
def wManyAs (K : PySem.W.Frag) (Wo : WX) (i : Nat) (D : Ends) : List (Value × (Addr → Value → Option Addr → TS)) → WX
  | [] => Wo
  | (c, ts) :: r => fun cls d σ H => ∃ b, PySem.W.exmOne K cls c = some b ∧ (b = true → ∀ a, H a = none → ts a cls d (offI D i) (σ.set i (some (.ref a))) H) ∧ (b = false → wManyAs K Wo i D r cls d σ H)
inductive HdsAs (X : Cx) (n : Str) : List ExceptHandler → List (Value × (Addr → Value → Option Addr → TS)) → Prop
  | nil : HdsAs X n [] []
  | cons {x : Str} {c : Value} {ts : Addr → Value → Option Addr → TS} {b0 : Stmt} {suite : List Stmt} {np po : Pos} {hds : List ExceptHandler} {l : List (Value × (Addr → Value → Option Addr → TS))} (hc : Names X x c)
      (hsu : ∀ (a : Addr) (oe : Obj) (cls : Value) (d : Option Addr) (pn : List (Addr × Obj)), Zc cls d oe → (∃ vs, oe.data = .fields vs) → PSs (X.suite a ((a, oe) :: pn)) (b0 :: suite) (ts a cls d)) (r : HdsAs X n hds l) :
      HdsAs X n (.ExceptHandler (some (.Name x np)) (some n) (b0 :: suite) po :: hds) ((c, ts) :: l)
section
variable {X : Cx} {n : Str} {i : Nat} {body : List Stmt} {h0 : ExceptHandler} {hds : List ExceptHandler} {l : List (Value × (Addr → Value → Option Addr → TS))} {pos : Pos} {tb : WX → TS} {Wo : WX}
theorem ps_try_manyAs (st : X.stack = X.env :: X.outer) (fr : X.env.frame = some X.env.locals) (nd : X.N.Nodup) (hi : X.N[i]? = some n) (ln : X.env.kindOf n = some .local) (tk : Takes X Wo)
    (hb : ∀ (W : WX) (pn : List (Addr × Obj)) (xe : Value → Shared → Prop), Takes (X.tr pn xe) W → PassesOwn (model X.prog X.w) X.A X.env xe → PSs (X.tr pn xe) body (tb W))
    (hh : HdsAs X n (h0 :: hds) l) : PS X (.Try body (h0 :: hds) [] [] pos) (fun D σ H => tb (wManyAs X.K Wo i D l) D σ H) := by
  refine ⟨fun pins s σ H D I rd => ?_⟩
  have ok := I.ok
  have afr : X.A.frames = some (X.env :: X.outer) := ok.frames.trans (by rw [st])
  let after : Value → Shared → Prop := fun e t1 => wpAny (model X.prog X.w) X.A (noteFrame e X.env) (fun _ t2 => wpAny (model X.prog X.w) X.A (setFlight e none) (fun _ t3 => wpAny (model X.prog X.w) X.A (handleBy e X.env (h0 :: hds)) (SP X pins D) X.xe t3) X.xe t2) X.xe t1
  refine wpAny_Try_except (wpAny_mono ((hb (wManyAs X.K Wo i D l) (X.pn ++ pins) after (fun u t xx => ?_) PassesOwn.looking).run [] s σ H D (I.toTry _) rd) (fun f t hsp => ?_) fun e t he => he)
  · obtain ⟨a, B, sI, pins', σ', H', cls, d, rfl, J0, nb, up, sky, na, os, ag, w⟩ := xx
    have J : Inv X pins σ' H' sI := J0.ofTry ok
    show wpAny (model X.prog X.w) X.A (noteFrame (.ref a) X.env) _ _ _
    refine Sky.land Zc.steady afr fr (show Sky B (X.env :: X.outer) a (Zc cls d) X.env.locals t.heap by rw [← st]; exact sky) fun g1 fl1 up1 => ?_
    have J1 : Inv X pins σ' H' { t with heap := g1 } := J.landed nb fl1.1 (up.trans up1) os ag
    obtain ⟨o1, vs1, e1, z1, d1⟩ := fl1.there
    have far : a ∉ frs (X.env :: X.outer) := fun hm => by
      obtain ⟨_, o', e', nf⟩ := fl1.2.2.1.mem hm
      rw [e1] at e'; cases e'; exact nf _ d1
    have nL : a ≠ X.env.locals := fun z => far (List.mem_filterMap.mpr ⟨X.env, List.mem_cons_self, by rw [fr, z]⟩)
    have nF : a ∉ X.fs := fun hm => let ⟨e, he, q⟩ := List.mem_filterMap.mp hm; far (List.mem_filterMap.mpr ⟨e, List.mem_cons_of_mem _ he, q⟩)
    have S1 := J1.suite e1 d1 na nL nF
    have LT : PySem.W.Looks (model X.prog X.w) g1 (typeOf (.ref a)) cls := fun A Q E s k q => wpAny_typeOf_ref (k _ _ e1) (by rw [z1.1]; exact q)
    have go : ∀ {hl : List ExceptHandler} {l' : List (Value × (Addr → Value → Option Addr → TS))}, HdsAs X n hl l' → wManyAs X.K Wo i D l' cls d σ' H' → wpAny (model X.prog X.w) X.A (handleBy (.ref a) X.env hl) (SP X pins D) X.xe { t with heap := g1 } := by
      intro hl l' hk
      induction hk with
      | nil =>
        intro w
        obtain ⟨k1, k2, k3, oe, vs, T, oT, ts', he, hz, hd, hT, hr⟩ := id fl1
        refine wpAny_handleBy_nil ?_
        unfold PySem.passOn
        refine wpAny_bind (wpAny_field he hd hT ?_)
        rw [if_neg (by simp : ¬ ((Value.ref T == Value.none) = true))]
        have out : wpAny (model X.prog X.w) X.A (setFlight (.ref a) X.env.frame) (fun _ t4 => wpAny (model X.prog X.w) X.A (throw (.ref a) : Sem Flow) (SP X pins D) X.xe t4) X.xe { t with heap := g1 } := by
          rw [fr]
          exact HandSPX.setFlight_upZ fl1 fun g2 hh2 up2 => wpAny_throw (tk _ _ ⟨a, B, sI, pins, σ', H', cls, d, rfl, J, nb, (up.trans up1).trans up2, .inr (.inr (by rw [st]; exact hh2)), na, os, ag, w⟩)
        first
          | exact wpAny_bind (wpAny_pure (wpAny_bind out))
          | exact wpAny_bind out
      | @cons x c ts b0 suite np po hl2 l2 hc hsu r ih =>
        intro w
        obtain ⟨b, hb1, yes, no⟩ := w
        refine wpAny_handleBy_cons (codeAny_handlers_test ?_) (by intro q; cases q)
        have LM := PySem.W.exm_one (M := model X.prog X.w) J1.kIn LT hb1
        have ask : ∀ {Q : Value → Shared → Prop} {E : Value → Shared → Prop}, Q c { t with heap := g1 } → wpAny (model X.prog X.w) (X.A.mark (some (.ref a))) (eval (.Name x np) X.env) Q E { t with heap := g1 } := fun {Q E} q => by
          obtain ⟨hg, hdbg, hm | ⟨hm, hv, hnn⟩⟩ := hc
          · exact ld_glob (X := X.suite a ((a, o1) :: (X.pn ++ pins))) S1 hg hm q hdbg
          · exact ld_blt (X := X.suite a ((a, o1) :: (X.pn ++ pins))) S1 hg hm hv q hnn hdbg
        refine ask (LM.here ?_)
        cases b with
        | false => exact ih (no rfl)
        | true =>
          refine codeAny_handlers_suite_as (HandSPX.lands_againZ fl1 fun g2 fl2 up2 => ?_)
          have J2 : Inv X pins σ' H' { t with heap := g2 } := J.landed nb fl2.1 ((up.trans up1).trans up2) os ag
          obtain ⟨o2, vs2, e2, z2, d2⟩ := fl2.there
          refine store_ok (X := X.suite a ((a, o2) :: (X.pn ++ pins))) (v := .ref a) (J2.suite e2 d2 na nL nF) nd hi (.inl ln) rfl (fun s5 S5 => ?_) (.inr ln)
          refine wpAny_mono ((hsu a o2 cls d (X.pn ++ pins) z2 ⟨_, d2⟩).run [] s5 _ H' _ S5 (yes rfl a na)) (fun f s6 hsp => ?_) (fun _ _ z => False.elim z)
          have fin : ∀ {z6 : L2.St} {H6 : Hp} {Q : Shared → Prop}, Inv (X.suite a ((a, o2) :: (X.pn ++ pins))) [] z6 H6 s6 → (∀ s7, Inv X pins (z6.set i none) H6 s7 → Q s7) →
              wpAny (model X.prog X.w) X.A (do bindName X.env n .none; unbindBehindTheSuite X.env n po) (fun _ s7 => Q s7) X.xe s6 := fun S6 hq => gone_ok (S6.unsuite ok) nd hi ln hq
          cases f with
          | next => obtain ⟨_, _, S6, q6⟩ := hsp; exact fin S6 fun s7 J7 => ⟨_, _, J7, q6⟩
          | brk => obtain ⟨_, _, S6, q6⟩ := hsp; exact fin S6 fun s7 J7 => ⟨_, _, J7, q6⟩
          | cont => obtain ⟨_, _, S6, q6⟩ := hsp; exact fin S6 fun s7 J7 => ⟨_, _, J7, q6⟩
          | ret u => obtain ⟨_, _, _, S6, r6, q6⟩ := hsp; exact fin S6 fun s7 J7 => ⟨_, _, _, J7, r6, q6⟩
    exact go hh w
  · cases f with
    | next => obtain ⟨_, _, J, q⟩ := hsp; exact wpAny_execs_nil ⟨_, _, J.ofTry ok, q⟩
    | brk => obtain ⟨_, _, J, q⟩ := hsp; exact ⟨_, _, J.ofTry ok, q⟩
    | cont => obtain ⟨_, _, J, q⟩ := hsp; exact ⟨_, _, J.ofTry ok, q⟩
    | ret u => obtain ⟨_, _, _, J, r, q⟩ := hsp; exact ⟨_, _, _, J.ofTry ok, r, q⟩
end
/-- what an own error's making asks, read at a value -/
theorem mkO_read {C : Addr} {fld : Str} {v : V} {H : Hp} {Q : L2.XK} (h : ∀ d, H d = none → Q (.ref C) (some d) (upd H d (.xd [(fld, v)]))) :
    [v].length ≤ 1000 ∧ ∀ a, H a = none → spXInit C fld (.ref a :: ([v] ++ [])) (upd H a (exo a C none)) (fun y H2 => y = .non ∧ ∃ (d : Addr) (fs : List (Str × V)), H2 a = some (exo a C (some d)) ∧ H2 d = some (exd d fs) ∧ H d = none ∧ Q (.ref C) (some d) (upd (del H2 a) d (.xd fs))) (fun _ _ _ => False) := by
  refine ⟨by show 1 ≤ 1000; decide, fun a na => ⟨a, v, rfl, upd_same, fun d nd ne => ⟨rfl, d, [(fld, v)], upd_same, by rw [upd_ne ne, upd_same], ?_, ?_⟩⟩⟩
  · rw [upd_ne ne] at nd; exact nd
  · have e : upd (del (upd (upd (upd H a (exo a C none)) d (exd d [(fld, v)])) a (exo a C (some d))) a) d (.xd [(fld, v)]) = upd H d (.xd [(fld, v)]) := funext fun b => by
      by_cases hb : b = d
      · rw [hb, upd_same, upd_same]
      · rw [upd_ne hb, upd_ne hb]
        by_cases ha : b = a
        · rw [ha, del_same, na]
        · rw [del_ne ha, upd_ne ha, upd_ne hb, upd_ne ha]
    rw [e]
    rw [upd_ne ne] at nd; exact h d nd
end HN

namespace HN
open PySem L2
def top (i : Nat) : Stmt := PySem.Challenge.pw_heldnotes_k14_standings_of_rows.main.body.getD i (.Pass ⟨0, 0, 0, 0⟩)
abbrev sWall : Stmt := top 0
abbrev sHelderror : Stmt := top 2
abbrev sBadstates : Stmt := top 3
abbrev sBadsorts : Stmt := top 4
abbrev sBadfirst : Stmt := top 5
abbrev sBadrow : Stmt := top 6
abbrev sBadworth : Stmt := top 7
abbrev sBadletter : Stmt := top 8
abbrev sIsList : Stmt := top 10
abbrev sIsInt : Stmt := top 11
abbrev sIsIntWithin : Stmt := top 12
abbrev sIsWord : Stmt := top 13
abbrev sIsWordList : Stmt := top 14
abbrev sIdle : Stmt := top 18
abbrev sIsKey : Stmt := top 19
abbrev sIsStep : Stmt := top 20
abbrev sIsEffect : Stmt := top 21
abbrev sToldEffects : Stmt := top 22
abbrev sToldWorths : Stmt := top 23
abbrev sBook : Stmt := top 24
abbrev sIsLetter : Stmt := top 26
abbrev sBadIndex : Stmt := top 27
abbrev sFirstStanding : Stmt := top 31
abbrev sSpotsAt : Stmt := top 32
abbrev sSpotOf : Stmt := top 33
abbrev sKeyAt : Stmt := top 34
abbrev sStandingBehind : Stmt := top 35
abbrev sMoveBy : Stmt := top 36
abbrev sCourse : Stmt := top 37
abbrev sCheckRow : Stmt := top 39
abbrev sStandingOf : Stmt := top 40
abbrev sSource : Stmt := top 42
abbrev sDraw : Stmt := top 43
abbrev sPick : Stmt := top 44
abbrev sSame : Stmt := top 45
abbrev sLEffectOf : Stmt := top 46
abbrev sLAgeOf : Stmt := top 47
abbrev sLGone : Stmt := top 48
abbrev sLStandingBehind : Stmt := top 49
abbrev sWords : Stmt := top 50
abbrev sEffect : Stmt := top 51
abbrev sSteps : Stmt := top 52
abbrev sWild : Stmt := top 53
abbrev sNear : Stmt := top 54
abbrev sPlan : Stmt := top 55
abbrev sBookOf : Stmt := top 56
abbrev sLSomeRow : Stmt := top 57
abbrev sLTried : Stmt := top 58
abbrev sLaw : Stmt := top 59
end HN

namespace HN
open PySem L2
/-! ### draws -/
/-- the draws' list stands at d -/
def Dr (H : Hp) (d : Addr) : Prop := ∃ a b c : Int, H d = some (.lst [.int a, .int b, .int c])
def But (d : Addr) (H H' : Hp) : Prop := ∀ b o, b ≠ d → H b = some o → H' b = some o
theorem But.refl (d : Addr) (H : Hp) : But d H H := fun _ _ _ h => h
theorem But.trans {d : Addr} {H H1 H2 : Hp} (a : But d H H1) (b : But d H1 H2) : But d H H2 := fun c o n h => b c o n (a c o n h)
theorem But.of {d : Addr} {H H' : Hp} (s : Same H H') : But d H H' := fun b o _ h => s b o h
theorem But.upd {d : Addr} {H : Hp} {o : HO} : But d H (upd H d o) := fun b u n h => by rw [upd_ne n]; exact h
theorem same_new {H : Hp} {p : Addr} {o : HO} (hp : H p = none) : Same H (upd H p o) := fun b u e => by rw [upd_ne (ne_of_none e hp)]; exact e
/-- a def of the top: where it stands, and how its arguments bind -/
structure Def (K : PySem.W.Frag) (mg : Str → Option Value) (x : Str) (st : Stmt) (ps : List Str) (f : Addr) (fd : FuncData) : Prop where
  F : Fun K x x st f fd
  m : mg x = some (.ref f)
  b : Binds K fd ps []
structure Txt (K : PySem.W.Frag) (mg : Str → Option Value) : Prop where
  str : mg "str" = none
  dict : mg "dict" = none
  set : mg "set" = none
  sorted : mg "sorted" = none
  range : mg "range" = none
  min : mg "min" = none
  sum : mg "sum" = none
  len : mg "len" = none
  int : mg "int" = none
  isi : mg "isinstance" = none
  all : mg "all" = none
  zip : mg "zip" = none
  list : mg "list" = none
  tuple : mg "tuple" = none
  bool : mg "bool" = none
def spSource (K : PySem.W.Frag) : Sp := fun vs H Q _ => ∃ (a : Addr) (ns : List Int) (k : Int), vs = [.ref a, .int k] ∧ SqL K H a (ns.map V.int) ∧ 0 ≤ k ∧ k ≤ 1000 ∧ ∀ d H', Dr H' d → H d = none → Same H H' → Q (.ref d) H'
def spDraw : Sp := fun vs H Q _ => ∃ (d : Addr) (m : Int), vs = [.ref d, .int m] ∧ Dr H d ∧ 0 < m ∧ m ≤ 1000 ∧ ∀ r H', 0 ≤ r → r < m → Dr H' d → But d H H' → Q (.int r) H'
section
variable {P : Program} {w : World} {K : PySem.W.Frag} {mg : Str → Option Value} {base : Heap}
theorem scDraw : FnScope ["_law_draws", "_law_many", "_law_found"] ["_law_draws", "_law_many"] (defScope sDraw) := ⟨rfl, rfl, rfl, by decide +kernel, rfl, by decide +kernel, by decide +kernel⟩
theorem ok_draw {f : Addr} {fd : FuncData} (F : Fun K "_law_draw" "_law_draw" sDraw f fd) (T : Txt K mg) : FnOk P w K mg base CX0 1 f fd ["_law_draws", "_law_many"] spDraw := by
  refine F.ok scDraw (fun vs H Q E h => ?_) (fun cdv A outer s H vs Q E hr h => ?_)
  · obtain ⟨d, m, rfl, _⟩ := h
    rfl
  · obtain ⟨d, m, rfl, ⟨a, b, c, hd⟩, h0, h1, k⟩ := h
    refine ⟨_, pss_cons (ps_if (pt_cmpR op_gt (pe_ix ix_list (pv 0) pe_int (fun _ _ => rfl)) pe_int (nomark _))
        (pss_cons (ps_set (i := 2) scDraw.nd rfl (Or.inl rfl) (pe_op op_mod (pe_callTy call_int1 (by rfl) T.int (by decide +kernel) (pa_cons (pe_ix ix_list (pv 0) pe_int (fun _ _ => rfl)) pa_nil)) (pv 1)))
        (pss_cons (ps_asg (pe_op op_fdiv (pe_ix ix_list (pv 0) pe_int (fun _ _ => rfl)) (pv 1)) (pg_sub (pv 0) pe_int set_list))
        (pss_one (ps_ret (pv 2))))) pss_nil)
      (pss_cons (ps_asg (pe_op op_add (pe_ix ix_list (pv 0) pe_int (fun _ _ => rfl)) pe_int) (pg_sub (pv 0) pe_int set_list))
      (pss_cons (ps_asg (pe_op op_mod (pe_callTy call_int1 (by rfl) T.int (by decide +kernel) (pa_cons (pe_op op_add (pe_op op_add (pe_op op_mul (pe_ix ix_list (pv 0) pe_int (fun _ _ => rfl)) pe_int) (pe_op op_mul (pe_ix ix_list (pv 0) pe_int (fun _ _ => rfl)) pe_int)) pe_int) pa_nil)) pe_int) (pg_sub (pv 0) pe_int set_list))
      (pss_one (ps_ret (pe_op op_mod (pe_callTy call_int1 (by rfl) T.int (by decide +kernel) (pa_cons (pe_op op_add (pe_op op_fdiv (pe_ix ix_list (pv 0) pe_int (fun _ _ => rfl)) pe_int) (pe_ix ix_list (pv 0) pe_int (fun _ _ => rfl))) pa_nil)) (pv 1)))))), ?_⟩
    refine ⟨_, rfl, d, _, 0, _, rfl, rfl, SqL.of hd, rfl, _, _, rfl, rfl, _, rfl, ?_⟩
    refine ite2 (fun _ => ?_) (fun _ => ?_)
    · refine ⟨_, rfl, d, _, 0, _, rfl, rfl, SqL.of hd, rfl, .inl ⟨_, rfl, ?_⟩⟩
      refine ⟨_, rfl, _, _, rfl, rfl, h0, ?_⟩
      refine ⟨_, rfl, d, _, 0, _, rfl, rfl, SqL.of hd, rfl, _, rfl, _, _, rfl, rfl, ⟨h0, by omega⟩, ?_⟩
      refine ⟨_, rfl, d, _, 0, 0, rfl, rfl, hd, rfl, ?_⟩
      refine ⟨_, rfl, ?_⟩
      exact k _ _ (Int.emod_nonneg _ (by omega)) (Int.emod_lt_of_pos _ h0) ⟨_, _, _, upd_same⟩ But.upd
    · refine ⟨_, rfl, d, _, 2, _, rfl, rfl, SqL.of hd, rfl, _, _, rfl, rfl, ?_⟩
      refine ⟨_, rfl, d, _, 2, 2, rfl, rfl, hd, rfl, ?_⟩
      refine ⟨_, rfl, d, _, 1, _, rfl, rfl, SqL.of upd_same, rfl, _, _, rfl, rfl, .inr (by decide), ?_⟩
      refine ⟨_, rfl, d, _, 2, _, rfl, rfl, SqL.of upd_same, rfl, _, _, rfl, rfl, .inr (by decide), ?_⟩
      refine ⟨_, _, rfl, rfl, _, _, rfl, rfl, .inl ⟨_, rfl, ?_⟩⟩
      refine ⟨_, _, rfl, rfl, by show (0 : Int) < 2147483647; decide, ?_⟩
      refine ⟨_, rfl, d, _, 1, 1, rfl, rfl, upd_same, rfl, ?_⟩
      refine ⟨_, rfl, d, _, 1, _, rfl, rfl, SqL.of upd_same, rfl, _, _, rfl, rfl, ⟨by decide, by decide⟩, ?_⟩
      refine ⟨_, rfl, d, _, 1, _, rfl, rfl, SqL.of upd_same, rfl, _, _, rfl, rfl, .inl ⟨_, rfl, ?_⟩⟩
      refine ⟨_, rfl, _, _, rfl, rfl, h0, ?_⟩
      exact k _ _ (Int.emod_nonneg _ (by omega)) (Int.emod_lt_of_pos _ h0) ⟨_, _, _, upd_same⟩ (But.upd.trans But.upd)
end
end HN

namespace HN
open PySem L2
/-! ### pick -/
def spPick (K : PySem.W.Frag) : Sp := fun vs H Q _ => ∃ (d l : Addr) (xs : List V), vs = [.ref d, .ref l] ∧ Dr H d ∧ SqL K H l xs ∧ l ≠ d ∧ 0 < xs.length ∧ xs.length ≤ 1000 ∧
  ∀ (r : Nat) (v : V) H', xs[r]? = some v → Dr H' d → But d H H' → Q v H'
theorem But.seq {K : PySem.W.Frag} {d : Addr} {H H' : Hp} {a : Addr} {xs : List V} (e : But d H H') (hn : a ≠ d) (h : SqL K H a xs) : SqL K H' a xs := by
  rcases h with (h | ⟨o, h⟩) | h
  · exact .inl (.inl (e _ _ hn h))
  · exact .inl (.inr ⟨o, e _ _ hn h⟩)
  · exact .inr h
theorem But.seqT {K : PySem.W.Frag} {d : Addr} {H H' : Hp} {a : Addr} {xs : List V} (e : But d H H') (hn : a ≠ d) (h : SqT K H a xs) : SqT K H' a xs := by
  rcases h with (h | ⟨o, h⟩) | h
  · exact .inl (.inl (e _ _ hn h))
  · exact .inl (.inr ⟨o, e _ _ hn h⟩)
  · exact .inr h
theorem Same.seqT {K : PySem.W.Frag} {H H' : Hp} {a : Addr} {xs : List V} (e : Same H H') (h : SqT K H a xs) : SqT K H' a xs := by
  rcases h with (h | ⟨o, h⟩) | h
  · exact .inl (.inl (e _ _ h))
  · exact .inl (.inr ⟨o, e _ _ h⟩)
  · exact .inr h
section
variable {P : Program} {w : World} {K : PySem.W.Frag} {mg : Str → Option Value} {base : Heap}
theorem scPick : FnScope ["_law_draws", "_law_xs"] ["_law_draws", "_law_xs"] (defScope sPick) := ⟨rfl, rfl, rfl, by decide +kernel, rfl, by decide +kernel, by decide +kernel⟩
theorem ok_pick {f fD : Addr} {fd fdD : FuncData} (F : Fun K "_law_pick" "_law_pick" sPick f fd) (T : Txt K mg) (G : FnOk P w K mg base CX0 1 fD fdD ["_law_draws", "_law_many"] spDraw) (mD : mg "_law_draw" = some (.ref fD)) (kD : PySem.W.keepIn K (.ref fD) = true)
    (bD : Binds K fdD ["_law_draws", "_law_many"] []) : FnOk P w K mg base CX0 2 f fd ["_law_draws", "_law_xs"] (spPick K) := by
  refine F.ok scPick (fun vs H Q E h => ?_) (fun cdv A outer s H vs Q E hr h => ?_)
  · obtain ⟨d, l, xs, rfl, _⟩ := h
    rfl
  · obtain ⟨d, l, xs, rfl, hd, hl, hn, h0, h1, k⟩ := h
    refine ⟨_, pss_one (ps_ret (pe_ix ix_list (pv 1) (pe_call G hr (by rfl) mD kD bD .nil pass0 (pa_cons (pv 0) (pa_cons (pe_callB call_len_seq (by rfl) T.len PySem.boot_len (pa_cons (pv 1) pa_nil)) pa_nil))) (fun _ _ => rfl))), ?_⟩
    refine ⟨_, rfl, _, rfl, _, rfl, l, xs, rfl, .inl hl, d, _, rfl, hd, by omega, by omega, fun r H' r0 r1 hd' hb => ?_⟩
    obtain ⟨j, rfl⟩ : ∃ j : Nat, r = (j : Int) := ⟨r.toNat, (Int.toNat_of_nonneg r0).symm⟩
    have hj : j < xs.length := by omega
    refine ⟨l, xs, _, _, rfl, rfl, hb.seq hn hl, atI_nat (List.getElem?_eq_getElem hj), ?_⟩
    exact k j _ H' (List.getElem?_eq_getElem hj) hd' hb
end
/-! ### same -/
mutual
def dep : PyData → Nat
  | .list ds => depL ds + 1
  | .tuple ds => depL ds + 1
  | _ => 0
def depL : List PyData → Nat
  | [] => 0
  | d :: ds => max (dep d) (depL ds)
end
mutual
def wd : PyData → Nat
  | .list ds => max ds.length (wdL ds)
  | .tuple ds => max ds.length (wdL ds)
  | _ => 0
def wdL : List PyData → Nat
  | [] => 0
  | d :: ds => max (wd d) (wdL ds)
end
theorem wdL_get : ∀ {ds : List PyData} {i : Nat} {d : PyData}, ds[i]? = some d → wd d ≤ wdL ds
  | [], i, d, e => by simp at e
  | x :: ds, 0, d, e => by
    simp at e; subst e
    rw [wdL]; omega
  | x :: ds, i + 1, d, e => by
    have := wdL_get (i := i) (ds := ds) (by simpa using e)
    rw [wdL]; omega
mutual
def sm : PyData → PyData → Bool
  | .none, .none => true
  | .str x, .str y => decide (x = y)
  | .bool x, .bool y => decide (x = y)
  | .int x, .int y => decide (x = y)
  | .list xs, .list ys => smL xs ys
  | .tuple xs, .tuple ys => smL xs ys
  | _, _ => false
def smL : List PyData → List PyData → Bool
  | [], [] => true
  | x :: xs, y :: ys => sm x y && smL xs ys
  | _, _ => false
end
theorem smL_len : ∀ (xs ys : List PyData), smL xs ys = true → xs.length = ys.length
  | [], [], _ => rfl
  | [], _ :: _, h => by simp [smL] at h
  | _ :: _, [], h => by simp [smL] at h
  | x :: xs, y :: ys, h => by
    rw [smL, Bool.and_eq_true] at h
    rw [List.length_cons, List.length_cons, smL_len xs ys h.2]
theorem smL_zip : ∀ (xs ys : List PyData), xs.length = ys.length → smL xs ys = ((List.zipWith sm xs ys).all id)
  | [], [], _ => by simp [smL]
  | [], _ :: _, h => by simp at h
  | _ :: _, [], h => by simp at h
  | x :: xs, y :: ys, h => by
    rw [smL, List.zipWith_cons_cons, List.all_cons, smL_zip xs ys (by simpa using h)]
    rfl

mutual
def plainD : PyData → Bool
  | .list ds => plainDL ds
  | .tuple ds => plainDL ds
  | .dict _ => false
  | _ => true
def plainDL : List PyData → Bool
  | [] => true
  | d :: ds => plainD d && plainDL ds
end
mutual
theorem Dp.same {K : PySem.W.Frag} {H H' : Hp} (s : Same H H') : ∀ {d : PyData} {v : V}, Dp K H v d → Dp K H' v d
  | .none, _, h => by cases h; exact .non
  | .bool b, _, h => by cases h; exact .bl b
  | .int i, _, h => by cases h; exact .int i
  | .str x, _, h => by cases h; exact .str x
  | .list ds, _, h => by
    cases h with
    | lst hs ha => exact .lst (s.seq hs) (DpAll.same s ha)
  | .tuple ds, _, h => by
    cases h with
    | tup hs ha => exact .tup (Same.seqT s hs) (DpAll.same s ha)
  | .dict _, _, h => by cases h
theorem DpAll.same {K : PySem.W.Frag} {H H' : Hp} (s : Same H H') : ∀ {ds : List PyData} {vs : List V}, DpAll K H vs ds → DpAll K H' vs ds
  | [], _, h => by cases h; exact .nil
  | d :: ds, _, h => by
    cases h with
    | cons h1 h2 => exact .cons (Dp.same s h1) (DpAll.same s h2)
end
theorem DpAll.len {K : PySem.W.Frag} {H : Hp} : ∀ {ds : List PyData} {vs : List V}, DpAll K H vs ds → vs.length = ds.length
  | [], _, h => by cases h; rfl
  | d :: ds, _, h => by
    cases h with
    | cons h1 h2 => rw [List.length_cons, List.length_cons, DpAll.len h2]
theorem DpAll.get {K : PySem.W.Frag} {H : Hp} : ∀ {ds : List PyData} {vs : List V} {i : Nat} {v : V}, DpAll K H vs ds → vs[i]? = some v → ∃ d, ds[i]? = some d ∧ Dp K H v d
  | [], _, i, v, h, e => by cases h; simp at e
  | d :: ds, _, 0, v, h, e => by
    cases h with
    | cons h1 h2 => simp at e; subst e; exact ⟨d, rfl, h1⟩
  | d :: ds, _, i + 1, v, h, e => by
    cases h with
    | cons h1 h2 =>
      obtain ⟨d', e1, e2⟩ := DpAll.get (i := i) h2 (by simpa using e)
      exact ⟨d', by simpa using e1, e2⟩
theorem depL_get : ∀ {ds : List PyData} {i : Nat} {d : PyData}, ds[i]? = some d → dep d ≤ depL ds
  | [], i, d, e => by simp at e
  | x :: ds, 0, d, e => by
    simp at e; subst e
    rw [depL]; omega
  | x :: ds, i + 1, d, e => by
    have := depL_get (i := i) (ds := ds) (by simpa using e)
    rw [depL]; omega
/-- the type of data -/
def tyD : PyData → String
  | .none => "NoneType"
  | .bool _ => "bool"
  | .int _ => "int"
  | .str _ => "str"
  | .list _ => "list"
  | .tuple _ => "tuple"
  | .dict _ => "dict"
theorem sqL_ty {K : PySem.W.Frag} {H : Hp} {a : Addr} {xs : List V} (h : SqL K H a xs) : TyX K H (.ref a) (.type "list") := by
  rcases h with (h | ⟨o, h⟩) | ⟨o, its, n, h1, h2, _⟩
  · exact .base (.lst h)
  · exact .base (.frz h)
  · exact .kList h1 h2
theorem sqT_ty {K : PySem.W.Frag} {H : Hp} {a : Addr} {xs : List V} (h : SqT K H a xs) : TyX K H (.ref a) (.type "tuple") := by
  rcases h with (h | ⟨o, h⟩) | ⟨o, its, n, h1, h2, _⟩
  · exact .base (.tup h)
  · exact .fTuple h
  · exact .kTuple h1 h2
theorem dp_ty {K : PySem.W.Frag} {H : Hp} {v : V} {d : PyData} (h : Dp K H v d) : TyX K H v (.type (tyD d)) := by
  cases h with
  | non => exact .base .non
  | bl b => exact .base (.bl b)
  | int i => exact .base (.int i)
  | str x => exact .base (.str x)
  | lst hs _ => exact sqL_ty hs
  | tup hs _ => exact sqT_ty hs
def isD (d : PyData) (c : String) : Bool := (kitB (tyD d) c).getD false
def ok6 (c : String) : Bool := (["list", "tuple", "bool", "int", "str", "dict"] : List String).contains c
theorem kit_isD {K : PySem.W.Frag} {d : PyData} {c : String} (hc : ok6 c = true := by decide +kernel) : PySem.W.kitOne K (.type (tyD d)) (.type c) = some (isD d c) := by
  refine kit_ty ?_
  unfold isD
  have : ∀ a ∈ (["NoneType", "bool", "int", "str", "list", "tuple", "dict"] : List String), ∀ c ∈ (["list", "tuple", "bool", "int", "str", "dict"] : List String), kitB a c = some ((kitB a c).getD false) := by decide +kernel
  exact this (tyD d) (by cases d <;> simp [tyD]) c (List.contains_iff_mem.mp hc)
def spSame (K : PySem.W.Frag) (n : Nat) : Sp := fun vs H Q _ => ∃ (x y : V) (d e : PyData), vs = [x, y] ∧ Dp K H x d ∧ Dp K H y e ∧ dep e < n ∧ wd e ≤ 1000000 ∧ ∀ H', Same H H' → Q (.bl (sm d e)) H'
end HN

namespace HN
open PySem L2
/-- a comprehension over zip of two lists of one length -/
theorem lc_zipL {K : PySem.W.Frag} {a b : Addr} {xs ys : List V} {g : TG} {tt : TT} {te : TE} {vs : List Nat} {σ : St} {H1 : Hp} {D : Addr} {Qd : Hp → Prop} (hl : xs.length = ys.length) (Pv : Nat → Hp → Prop) (h0 : Pv 0 (upd H1 D (.lst []))) (hq : ∀ i H, Pv i H → SqL K H a xs ∧ SqL K H b ys)
    (hs : ∀ (i : Nat) (x y : V) (T : Addr) (H : Hp), xs[i]? = some x → ys[i]? = some y → Pv i H → H T = none → g (.ref T) (wipe σ vs) (upd H T (.tup [x, y])) fun σ2 H2 => wipe σ2 vs = wipe σ vs ∧ tt σ2 H2 fun b H3 =>
      if b = true then te σ2 H3 fun y H4 => ∃ acc, H4 D = some (.lst acc) ∧ acc.length < sizeLine ∧ Pv (i + 1) (upd H4 D (.lst (acc ++ [y]))) else Pv (i + 1) H3) (hd : ∀ H, Pv xs.length H → Qd H) :
    ∃ W : Nat → Nat → Hp → Prop, (∃ m, W 0 m (upd H1 D (.lst []))) ∧ ∀ i m H, W i m H →
      ((Itz K a b).stop i H ∧ Qd H) ∨ ((Itz K a b).go i H ∧ ∃ Nx : Hp → Prop, (∀ H', Nx H' → ∃ m', m' < m ∧ W (i + 1) m' H') ∧ ∀ x H', (Itz K a b).yld i H x H' → g x (wipe σ vs) H' fun σ2 H2 => wipe σ2 vs = wipe σ vs ∧ tt σ2 H2 fun b H3 =>
        if b = true then te σ2 H3 fun y H4 => ∃ acc, H4 D = some (.lst acc) ∧ acc.length < sizeLine ∧ Nx (upd H4 D (.lst (acc ++ [y]))) else Nx H3) := by
  refine ⟨fun i m H => m = xs.length - i ∧ i ≤ xs.length ∧ Pv i H, ⟨xs.length, by simp, Nat.zero_le _, h0⟩, ?_⟩
  rintro i m H ⟨rfl, hi, p⟩
  obtain ⟨qx, qy⟩ := hq i H p
  by_cases hlt : i < xs.length
  · have hlt2 : i < ys.length := by omega
    refine .inr ⟨⟨xs, ys, _, _, qx, qy, List.getElem?_eq_getElem hlt, List.getElem?_eq_getElem hlt2⟩, Pv (i + 1), fun H' p' => ⟨xs.length - (i + 1), by omega, rfl, hlt, p'⟩, fun v H' y => ?_⟩
    obtain ⟨T, x', y', rfl, hT, rfl, f1, f2⟩ := y
    exact hs i x' y' T H (f1 xs qx) (f2 ys qy) p hT
  · have e : i = xs.length := by omega
    subst e
    exact .inl ⟨⟨xs, ys, qx, qy, Or.inl (Nat.le_refl _)⟩, hd H p⟩

theorem lc_zipT {K : PySem.W.Frag} {a b : Addr} {xs ys : List V} {g : TG} {tt : TT} {te : TE} {vs : List Nat} {σ : St} {H1 : Hp} {D : Addr} {Qd : Hp → Prop} (hl : xs.length = ys.length) (Pv : Nat → Hp → Prop) (h0 : Pv 0 (upd H1 D (.lst []))) (hq : ∀ i H, Pv i H → SqT K H a xs ∧ SqT K H b ys)
    (hs : ∀ (i : Nat) (x y : V) (T : Addr) (H : Hp), xs[i]? = some x → ys[i]? = some y → Pv i H → H T = none → g (.ref T) (wipe σ vs) (upd H T (.tup [x, y])) fun σ2 H2 => wipe σ2 vs = wipe σ vs ∧ tt σ2 H2 fun b H3 =>
      if b = true then te σ2 H3 fun y H4 => ∃ acc, H4 D = some (.lst acc) ∧ acc.length < sizeLine ∧ Pv (i + 1) (upd H4 D (.lst (acc ++ [y]))) else Pv (i + 1) H3) (hd : ∀ H, Pv xs.length H → Qd H) :
    ∃ W : Nat → Nat → Hp → Prop, (∃ m, W 0 m (upd H1 D (.lst []))) ∧ ∀ i m H, W i m H →
      ((RZ.ItzT K a b).stop i H ∧ Qd H) ∨ ((RZ.ItzT K a b).go i H ∧ ∃ Nx : Hp → Prop, (∀ H', Nx H' → ∃ m', m' < m ∧ W (i + 1) m' H') ∧ ∀ x H', (RZ.ItzT K a b).yld i H x H' → g x (wipe σ vs) H' fun σ2 H2 => wipe σ2 vs = wipe σ vs ∧ tt σ2 H2 fun b H3 =>
        if b = true then te σ2 H3 fun y H4 => ∃ acc, H4 D = some (.lst acc) ∧ acc.length < sizeLine ∧ Nx (upd H4 D (.lst (acc ++ [y]))) else Nx H3) := by
  refine ⟨fun i m H => m = xs.length - i ∧ i ≤ xs.length ∧ Pv i H, ⟨xs.length, by simp, Nat.zero_le _, h0⟩, ?_⟩
  rintro i m H ⟨rfl, hi, p⟩
  obtain ⟨qx, qy⟩ := hq i H p
  by_cases hlt : i < xs.length
  · have hlt2 : i < ys.length := by omega
    refine .inr ⟨⟨xs, ys, _, _, qx, qy, List.getElem?_eq_getElem hlt, List.getElem?_eq_getElem hlt2⟩, Pv (i + 1), fun H' p' => ⟨xs.length - (i + 1), by omega, rfl, hlt, p'⟩, fun v H' y => ?_⟩
    obtain ⟨T, x', y', rfl, hT, rfl, f1, f2⟩ := y
    exact hs i x' y' T H (f1 xs qx) (f2 ys qy) p hT
  · have e : i = xs.length := by omega
    subst e
    exact .inl ⟨⟨xs, ys, qx, qy, Or.inl (Nat.le_refl _)⟩, hd H p⟩
end HN

namespace HN
open PySem L2
section
variable {P : Program} {w : World} {K : PySem.W.Frag} {mg : Str → Option Value} {base : Heap}
theorem kitAny2 {t c1 c2 : Value} {b1 b2 : Bool} (h1 : PySem.W.kitOne K t c1 = some b1) (h2 : PySem.W.kitOne K t c2 = some b2) : PySem.W.kitAny K t [c1, c2] = some (b1 || b2) := by
  refine kitAny_cons h1 (fun e => ?_) (fun e => by rw [e]; rfl)
  rw [e, Bool.false_or]
  refine kitAny_cons h2 (fun e2 => ?_) (fun e2 => e2)
  rw [e2]; exact kitAny_nil
theorem kitAny4 {t c1 c2 c3 c4 : Value} {b1 b2 b3 b4 : Bool} (h1 : PySem.W.kitOne K t c1 = some b1) (h2 : PySem.W.kitOne K t c2 = some b2) (h3 : PySem.W.kitOne K t c3 = some b3) (h4 : PySem.W.kitOne K t c4 = some b4) : PySem.W.kitAny K t [c1, c2, c3, c4] = some (b1 || (b2 || (b3 || b4))) := by
  refine kitAny_cons h1 (fun e => ?_) (fun e => by rw [e]; rfl)
  rw [e, Bool.false_or]
  refine kitAny_cons h2 (fun e => ?_) (fun e => by rw [e]; rfl)
  rw [e, Bool.false_or]
  exact kitAny2 h3 h4
theorem cls2 {a b : String} : Paired ClsV [.ty a, .ty b] [.type a, .type b] := .cons (.ty a) (.cons (.ty b) .nil)
theorem cls4 {a b c d : String} : Paired ClsV [.ty a, .ty b, .ty c, .ty d] [.type a, .type b, .type c, .type d] := .cons (.ty a) (.cons (.ty b) (.cons (.ty c) (.cons (.ty d) .nil)))
theorem isD_list (d : PyData) : isD d "list" = (match d with | .list _ => true | _ => false) := by cases d <;> (unfold isD tyD; dsimp only; decide +kernel)
theorem isD_tuple (d : PyData) : isD d "tuple" = (match d with | .tuple _ => true | _ => false) := by cases d <;> (unfold isD tyD; dsimp only; decide +kernel)
theorem isD_bool (d : PyData) : isD d "bool" = (match d with | .bool _ => true | _ => false) := by cases d <;> (unfold isD tyD; dsimp only; decide +kernel)
theorem isD_int (d : PyData) : isD d "int" = (match d with | .bool _ => true | .int _ => true | _ => false) := by cases d <;> (unfold isD tyD; dsimp only; decide +kernel)
theorem isD_str (d : PyData) : isD d "str" = (match d with | .str _ => true | _ => false) := by cases d <;> (unfold isD tyD; dsimp only; decide +kernel)
theorem iteN {c A B : Prop} [Decidable c] (hc : ¬ c) (h : A) : if (!decide c) = true then A else B := by
  rw [decide_eq_false hc]
  exact iteT h
theorem dp_list {H : Hp} {v : V} {ds : List PyData} (h : Dp K H v (.list ds)) : ∃ a xs, v = .ref a ∧ SqL K H a xs ∧ DpAll K H xs ds := by
  cases h with
  | lst hs ha => exact ⟨_, _, rfl, hs, ha⟩
theorem dp_tuple {H : Hp} {v : V} {ds : List PyData} (h : Dp K H v (.tuple ds)) : ∃ a xs, v = .ref a ∧ SqT K H a xs ∧ DpAll K H xs ds := by
  cases h with
  | tup hs ha => exact ⟨_, _, rfl, hs, ha⟩
theorem take_more {α : Type} {l : List α} {i : Nat} {x : α} (h : l[i]? = some x) : l.take (i + 1) = l.take i ++ [x] := by
  rw [List.take_add_one, h]; rfl
end
end HN


namespace HN
open PySem L2
def isWord (z : Str) : Bool := decide (1 ≤ z.length) && (decide (z.length ≤ 8) && (Txt.isascii z && (Txt.isalpha z && Txt.islower z)))
def dWord : PyData → Bool
  | .str z => isWord z
  | _ => false
def dInt : PyData → Bool
  | .int _ => true
  | _ => false
def dWithin (l g : Int) : PyData → Bool
  | .int i => decide (l ≤ i) && decide (i ≤ g)
  | _ => false
def spIsList (K : PySem.W.Frag) : Sp := fun vs H Q _ => ∃ (x : V) (d : PyData), vs = [x] ∧ Dp K H x d ∧ ∀ H', Same H H' → Q (.bl (isD d "list" || isD d "tuple")) H'
def spIsInt (K : PySem.W.Frag) : Sp := fun vs H Q _ => ∃ (x : V) (d : PyData), vs = [x] ∧ Dp K H x d ∧ Q (.bl (dInt d)) H
def spWithin (K : PySem.W.Frag) : Sp := fun vs H Q _ => ∃ (x : V) (d : PyData) (l g : Int), vs = [x, .int l, .int g] ∧ Dp K H x d ∧ Q (.bl (dWithin l g d)) H
def spIsWord (K : PySem.W.Frag) : Sp := fun vs H Q _ => ∃ (x : V) (d : PyData), vs = [x] ∧ Dp K H x d ∧ (∀ z, d = .str z → z.length ≤ 1000) ∧ Q (.bl (dWord d)) H
/-- a list of unlike words, as it is passed to a book -/
def Wds (most : Nat) (ws : List Str) : Prop := 1 ≤ ws.length ∧ ws.length ≤ most ∧ ws.Nodup ∧ ∀ z ∈ ws, isWord z = true
def spWordList (K : PySem.W.Frag) : Sp := fun vs H Q _ => ∃ (l : Addr) (ws : List Str) (m : Nat), vs = [.ref l, .int (m : Nat)] ∧ SqL K H l (ws.map V.str) ∧ m ≤ 100 ∧ Wds m ws ∧ ∀ H', Same H H' → Q (.bl true) H'
theorem wd_len {z : Str} (h : isWord z = true) : 1 ≤ z.length ∧ z.length ≤ 8 := by
  simp only [isWord, Bool.and_eq_true, decide_eq_true_eq] at h
  exact ⟨h.1, h.2.1⟩
section
variable {P : Program} {w : World} {K : PySem.W.Frag} {mg : Str → Option Value} {base : Heap}
theorem scIsList : FnScope ["thing"] ["thing"] (defScope sIsList) := ⟨rfl, rfl, rfl, by decide +kernel, rfl, by decide +kernel, by decide +kernel⟩
theorem ok_isList {f : Addr} {fd : FuncData} (D : Def K mg "is_list" sIsList ["thing"] f fd) (T : Txt K mg) : FnOk P w K mg base CX0 1 f fd ["thing"] (spIsList K) := by
  refine D.F.ok scIsList (fun vs H Q E h => ?_) (fun cdv A outer s H vs Q E hr h => ?_)
  · obtain ⟨x, d, rfl, _⟩ := h
    rfl
  · obtain ⟨x, d, rfl, hx, k⟩ := h
    refine ⟨_, pss_one (ps_ret (pe_callB call_isiT (by rfl) T.isi (by decide +kernel) (pa_cons (pv 0) (pa_cons (pe_tup (pa_cons (pe_bltn (v := .ty "list") (by rfl) T.list (by decide +kernel) rfl) (pa_cons (pe_bltn (v := .ty "tuple") (by rfl) T.tuple (by decide +kernel) rfl) pa_nil))) pa_nil)))), ?_⟩
    refine ⟨_, rfl, by show 2 ≤ sizeLine; decide, fun p hp => ?_⟩
    have s1 := same_new (o := .tup [.ty "list", .ty "tuple"]) hp
    exact ⟨x, p, _, _, _, _, rfl, upd_same, cls2, dp_ty (Dp.same s1 hx), kitAny2 kit_isD kit_isD, k _ s1⟩
theorem scIsInt : FnScope ["thing"] ["thing"] (defScope sIsInt) := ⟨rfl, rfl, rfl, by decide +kernel, rfl, by decide +kernel, by decide +kernel⟩
theorem ok_isInt {f : Addr} {fd : FuncData} (D : Def K mg "is_int" sIsInt ["thing"] f fd) (T : Txt K mg) : FnOk P w K mg base CX0 1 f fd ["thing"] (spIsInt K) := by
  refine D.F.ok scIsInt (fun vs H Q E h => ?_) (fun cdv A outer s H vs Q E hr h => ?_)
  · obtain ⟨x, d, rfl, _⟩ := h
    rfl
  · obtain ⟨x, d, rfl, hx, k⟩ := h
    refine ⟨_, pss_one (ps_ret (pe_and (pe_callB call_isi (by rfl) T.isi (by decide +kernel) (pa_cons (pv 0) (pa_cons (pe_bltn (v := .ty "int") (by rfl) T.int (by decide +kernel) rfl) pa_nil)))
      (pe_one (pe_not (pe_callB call_isi (by rfl) T.isi (by decide +kernel) (pa_cons (pv 0) (pa_cons (pe_bltn (v := .ty "bool") (by rfl) T.bool (by decide +kernel) rfl) pa_nil))))))), ?_⟩
    refine ⟨_, rfl, x, .ty "int", _, _, _, rfl, .ty "int", dp_ty hx, kit_isD, _, rfl, ?_⟩
    rw [isD_int]
    refine ite2 (fun h3 => ?_) (fun h3 => ?_)
    · refine ⟨_, rfl, x, .ty "bool", _, _, _, rfl, .ty "bool", dp_ty hx, kit_isD, _, rfl, ?_⟩
      rw [isD_bool]
      cases d <;> simp at h3 <;> exact k
    · cases d <;> simp at h3 <;> exact k
theorem scWithin : FnScope ["thing", "least", "greatest"] ["thing", "least", "greatest"] (defScope sIsIntWithin) := ⟨rfl, rfl, rfl, by decide +kernel, rfl, by decide +kernel, by decide +kernel⟩
theorem ok_within {f fI : Addr} {fd fdI : FuncData} (D : Def K mg "is_int_within" sIsIntWithin ["thing", "least", "greatest"] f fd) (T : Txt K mg) (DI : Def K mg "is_int" sIsInt ["thing"] fI fdI) : FnOk P w K mg base CX0 2 f fd ["thing", "least", "greatest"] (spWithin K) := by
  have GI : FnOk P w K mg base CX0 1 fI fdI ["thing"] (spIsInt K) := ok_isInt DI T
  refine D.F.ok scWithin (fun vs H Q E h => ?_) (fun cdv A outer s H vs Q E hr h => ?_)
  · obtain ⟨x, d, l, g, rfl, _⟩ := h
    rfl
  · obtain ⟨x, d, l, g, rfl, hx, k⟩ := h
    refine ⟨_, pss_one (ps_ret (pe_and (pe_call GI hr (by rfl) DI.m DI.F.kp DI.b .nil pass0 (pa_cons (pv 0) pa_nil)) (pe_one (pe_chain op_le op_le (pv 1) (pv 0) (pv 2))))), ?_⟩
    refine ⟨_, rfl, x, d, rfl, hx, _, rfl, ?_⟩
    refine ite2 (fun h3 => ?_) (fun h3 => ?_)
    · cases d <;> simp [dInt] at h3
      cases hx
      rename_i i
      refine ⟨_, rfl, _, rfl, _, _, rfl, rfl, _, rfl, ?_⟩
      simp only [dWithin] at k
      by_cases c : l ≤ i
      · rw [decide_eq_true c, Bool.true_and] at k
        rw [decide_eq_true c]
        exact ⟨_, rfl, _, _, rfl, rfl, k⟩
      · rw [decide_eq_false c, Bool.false_and] at k
        rw [decide_eq_false c]
        exact k
    · cases d <;> simp [dInt] at h3 <;> exact k
theorem scIsWord : FnScope ["thing"] ["thing"] (defScope sIsWord) := ⟨rfl, rfl, rfl, by decide +kernel, rfl, by decide +kernel, by decide +kernel⟩
theorem ok_isWord {f : Addr} {fd : FuncData} (D : Def K mg "is_word" sIsWord ["thing"] f fd) (T : Txt K mg) : FnOk P w K mg base CX0 1 f fd ["thing"] (spIsWord K) := by
  refine D.F.ok scIsWord (fun vs H Q E h => ?_) (fun cdv A outer s H vs Q E hr h => ?_)
  · obtain ⟨x, d, rfl, _⟩ := h
    rfl
  · obtain ⟨x, d, rfl, hx, hz, k⟩ := h
    refine ⟨_, pss_one (ps_ret (pe_and (pe_callB call_isi (by rfl) T.isi (by decide +kernel) (pa_cons (pv 0) (pa_cons (pe_bltn (v := .ty "str") (by rfl) T.str (by decide +kernel) rfl) pa_nil)))
      (pe_and (pe_chain op_le op_le pe_int (pe_callB call_len_str (by rfl) T.len PySem.boot_len (pa_cons (pv 0) pa_nil)) pe_int)
      (pe_and (pe_m0 PySem.F.slot_str_isascii PySem.F.type_str_isascii mt_isascii (pv 0)) (pe_and (pe_m0 PySem.F.slot_str_isalpha PySem.F.type_str_isalpha mt_isalpha (pv 0)) (pe_one (pe_m0 PySem.F.slot_str_islower PySem.F.type_str_islower mt_islower (pv 0)))))))), ?_⟩
    refine ⟨_, rfl, x, .ty "str", _, _, _, rfl, .ty "str", dp_ty hx, kit_isD, _, rfl, ?_⟩
    rw [isD_str]
    refine ite2 (fun h3 => ?_) (fun h3 => ?_)
    · cases d <;> simp at h3
      cases hx
      rename_i z
      have lz := hz z rfl
      simp only [dWord, isWord] at k
      have e1 : decide ((1 : Int) ≤ (z.length : Int)) = decide (1 ≤ z.length) := by congr 1; exact propext ⟨fun h => by omega, fun h => by omega⟩
      have e8 : decide ((z.length : Int) ≤ (8 : Int)) = decide (z.length ≤ 8) := by congr 1; exact propext ⟨fun h => by omega, fun h => by omega⟩
      refine ⟨_, rfl, z, rfl, Nat.le_trans lz (by decide), _, _, rfl, rfl, _, rfl, ?_⟩
      rw [e1]
      by_cases c1 : 1 ≤ z.length
      · rw [decide_eq_true c1, Bool.true_and] at k
        rw [decide_eq_true c1]
        refine ⟨_, _, rfl, rfl, _, rfl, ?_⟩
        rw [e8]
        by_cases c8 : z.length ≤ 8
        · rw [decide_eq_true c8, Bool.true_and] at k
          rw [decide_eq_true c8]
          refine ⟨_, rfl, ⟨_, rfl⟩, z, rfl, rfl, trivial, _, rfl, ?_⟩
          cases ca : Txt.isascii z with
          | false => rw [ca, Bool.false_and] at k; exact k
          | true =>
            rw [ca, Bool.true_and] at k
            refine ⟨_, rfl, ⟨_, rfl⟩, z, rfl, rfl, trivial, _, rfl, ?_⟩
            cases cl : Txt.isalpha z with
            | false => rw [cl, Bool.false_and] at k; exact k
            | true =>
              rw [cl, Bool.true_and] at k
              exact ⟨_, rfl, ⟨_, rfl⟩, z, rfl, rfl, trivial, k⟩
        · rw [decide_eq_false c8, Bool.false_and] at k
          rw [decide_eq_false c8]
          exact k
      · rw [decide_eq_false c1, Bool.false_and] at k
        rw [decide_eq_false c1]
        exact ⟨_, rfl, k⟩
    · cases d <;> simp at h3 <;> exact k
end
end HN

namespace HN
open PySem L2
theorem dp_strs {K : PySem.W.Frag} {H : Hp} : ∀ ws : List Str, DpAll K H (ws.map V.str) (ws.map PyData.str)
  | [] => .nil
  | z :: ws => .cons (.str z) (dp_strs ws)
theorem dp_wlist {K : PySem.W.Frag} {H : Hp} {l : Addr} {ws : List Str} (h : SqL K H l (ws.map V.str)) : Dp K H (.ref l) (.list (ws.map PyData.str)) := .lst h (dp_strs ws)
theorem get_str {ws : List Str} {i : Nat} {x : V} (h : (ws.map V.str)[i]? = some x) : ∃ z, ws[i]? = some z ∧ x = .str z := by
  rw [List.getElem?_map] at h
  cases e : ws[i]? with
  | none => rw [e] at h; cases h
  | some z => rw [e] at h; exact ⟨z, rfl, (Option.some.inj h).symm⟩
section
variable {P : Program} {w : World} {K : PySem.W.Frag} {mg : Str → Option Value} {base : Heap}
theorem scWordList : FnScope ["thing", "most", "word"] ["thing", "most"] (defScope sIsWordList) := ⟨rfl, rfl, rfl, by decide +kernel, rfl, by decide +kernel, by decide +kernel⟩
theorem ok_wordList {f fL fW : Addr} {fd fdL fdW : FuncData} (D : Def K mg "is_word_list" sIsWordList ["thing", "most"] f fd) (T : Txt K mg) (DL : Def K mg "is_list" sIsList ["thing"] fL fdL) (DW : Def K mg "is_word" sIsWord ["thing"] fW fdW) :
    FnOk P w K mg base CX0 2 f fd ["thing", "most"] (spWordList K) := by
  have GL : FnOk P w K mg base CX0 1 fL fdL ["thing"] (spIsList K) := ok_isList DL T
  have GW : FnOk P w K mg base CX0 1 fW fdW ["thing"] (spIsWord K) := ok_isWord DW T
  refine D.F.ok scWordList (fun vs H Q E h => ?_) (fun cdv A outer s H vs Q E hr h => ?_)
  · obtain ⟨l, ws, m, rfl, _⟩ := h
    rfl
  · obtain ⟨l, ws, m, rfl, hl, hm, ⟨h1, h2, nd, hw⟩, k⟩ := h
    refine ⟨_, pss_one (ps_ret (pe_and (pe_call GL hr (by rfl) DL.m DL.F.kp DL.b .nil pass0 (pa_cons (pv 0) pa_nil))
      (pe_and (pe_chain op_le op_le pe_int (pe_callB call_len_seq (by rfl) T.len PySem.boot_len (pa_cons (pv 0) pa_nil)) (pv 1))
      (pe_and (pe_callB (cr_all rfl) (by rfl) T.all (by decide +kernel) (pa_cons (pe_lc (own := [("word", 2)]) (g := gName 2) (tt := tYes) rfl scWordList.nd (pi_list (pv 0)) (blkOk_by (N := ["thing", "most", "word"]) (sc := defScope sIsWordList) (by decide +kernel))
          (fun _ _ _ _ _ => pg_name (i := 2) scWordList.nd rfl (Or.inl rfl)) (fun _ _ _ _ _ => pts_nil) (fun _ _ _ _ _ => pe_call GW hr (by rfl) DW.m DW.F.kp DW.b .nil pass0 (pa_cons (pv 2) pa_nil))) pa_nil))
      (pe_one (pe_cmpR op_eq (pe_lenSetTx rfl (by rfl) T.len (by rfl) T.set (pv 0)) (pe_callB call_len_seq (by rfl) T.len PySem.boot_len (pa_cons (pv 0) pa_nil)) (nomark _))))))), ?_⟩
    refine ⟨_, rfl, _, _, rfl, dp_wlist hl, fun H1 s1 => ⟨_, rfl, ?_⟩⟩
    have hl1 := s1.seq hl
    refine ⟨_, rfl, l, _, rfl, .inl hl1, _, _, rfl, rfl, _, rfl, ?_⟩
    rw [List.length_map, decide_eq_true (show (1 : Int) ≤ (ws.length : Nat) by omega)]
    refine ⟨_, rfl, _, _, rfl, rfl, _, rfl, ?_⟩
    rw [decide_eq_true (show ((ws.length : Nat) : Int) ≤ (m : Nat) by omega)]
    refine ⟨_, rfl, l, rfl, ⟨_, hl1⟩, fun C hC => lc_list (K := K) (a := l) (xs := ws.map V.str) (fun i H' => Same H1 H' ∧ H' C = some (.lst ((List.replicate i true).map V.bl))) ⟨same_new hC, upd_same⟩ (fun i H' _ q => q.1.seq hl1) (fun i x H' hx q => ?_) (fun H' q => ?_)⟩
    · obtain ⟨z, hz, rfl⟩ := get_str hx
      have hi := (List.getElem?_eq_some_iff.mp hz).1
      have wz := hw z (List.mem_of_getElem? hz)
      have lz := wd_len wz
      refine ⟨rfl, _, rfl, _, _, rfl, .str z, fun y e => ?_, _, q.2, ?_, ?_, ?_⟩
      · cases e; omega
      · rw [List.length_map, List.length_replicate]; exact Nat.lt_of_lt_of_le (by omega : i < 101) (by decide)
      · intro b o e
        rw [upd_ne (ne_of_none e hC)]
        exact q.1 b o e
      · rw [upd_same, List.replicate_succ', List.map_append]
        show some (HO.lst (_ ++ [V.bl (isWord z)])) = _
        rw [wz]; rfl
    · rw [List.length_map] at q
      refine ⟨C, List.replicate ws.length true, rfl, SqL.of q.2, _, rfl, ?_⟩
      have : (List.replicate ws.length true).all id = true := by simp
      rw [this]
      have hl2 := q.1.seq hl1
      refine ⟨_, rfl, l, ws, rfl, hl2, nd, by omega, _, rfl, l, _, rfl, .inl hl2, rfl, ?_⟩
      rw [List.length_map]
      have := k H' (s1.trans q.1)
      simpa using this
end
end HN

namespace HN
open PySem L2
/-! ### walks of my own comprehensions -/
theorem goT_it {J : It} {n : Nat} {G : Hp → Prop} {Y : Nat → Hp → V → Hp → Prop} (w : Walk J n G Y) {g : TG} {tt : TT} {tk tv : TE} {vs : List Nat} {τ : L2.St} {D : Addr} {R : Hp → Prop} {H0 : Hp} (Pv : Nat → Hp → Prop) (h0 : Pv 0 H0) (hG : ∀ i H, i ≤ n → Pv i H → G H)
    (hs : ∀ i x H H', i < n → Pv i H → Y i H x H' → g x (wipe τ vs) H' fun τ2 H2 => wipe τ2 vs = wipe τ vs ∧ tt τ2 H2 fun b H3 => if b = true then stT D tk tv τ2 H3 (Pv (i + 1)) else Pv (i + 1) H3) (hd : ∀ H, Pv n H → R H) : goT J g tt tk tv vs τ D R H0 := by
  refine ⟨fun i m H => i ≤ n ∧ m = n - i ∧ Pv i H, ⟨_, Nat.zero_le _, rfl, h0⟩, fun i m H ⟨hi, hm, p⟩ => ?_⟩
  have q := hG i H hi p
  rcases Nat.lt_or_ge i n with lt | ge
  · exact Or.inr ⟨w.goes i H lt q, Pv (i + 1), fun H' p' => ⟨n - (i + 1), by omega, lt, rfl, p'⟩, fun x H' y => hs i x H H' lt p (w.yields i H x H' lt q y)⟩
  · obtain rfl : i = n := Nat.le_antisymm hi ge
    exact Or.inl ⟨w.stops H q, hd H p⟩
/-- the same for dicts whose keys are ints and texts -/
theorem dc_it {J : It} {n : Nat} {G : Hp → Prop} {Y : Nat → Hp → V → Hp → Prop} (w : Walk J n G Y) {g : TG} {tt : TT} {tk tv : TE} {vs : List Nat} {τ : L2.St} {D : Addr} {R : Hp → Prop} {H0 : Hp} (Pv : Nat → Hp → Prop) (h0 : Pv 0 H0) (hG : ∀ i H, i ≤ n → Pv i H → G H)
    (hs : ∀ i x H H', i < n → Pv i H → Y i H x H' → g x (wipe τ vs) H' fun τ2 H2 => wipe τ2 vs = wipe τ vs ∧ tt τ2 H2 fun b H3 => if b = true then tk τ2 H3 fun y H4 => tv τ2 H4 fun z H5 => ∃ kvs k, y = kV k ∧ H5 D = some (.dK kvs) ∧ kvs.length < sizeLine ∧ Pv (i + 1) (upd H5 D (.dK (putK kvs k z))) else Pv (i + 1) H3)
    (hd : ∀ H, Pv n H → R H) : ∃ W : Nat → Nat → Hp → Prop, (∃ m, W 0 m H0) ∧ ∀ i m H, W i m H → (J.stop i H ∧ R H) ∨ (J.go i H ∧ ∃ N : Hp → Prop, (∀ H', N H' → ∃ m', m' < m ∧ W (i + 1) m' H') ∧ ∀ x H', J.yld i H x H' → g x (wipe τ vs) H' fun τ2 H2 => wipe τ2 vs = wipe τ vs ∧ tt τ2 H2 fun b H3 =>
      if b = true then tk τ2 H3 fun y H4 => tv τ2 H4 fun z H5 => ∃ kvs k, y = kV k ∧ H5 D = some (.dK kvs) ∧ kvs.length < sizeLine ∧ N (upd H5 D (.dK (putK kvs k z))) else N H3) := by
  refine ⟨fun i m H => i ≤ n ∧ m = n - i ∧ Pv i H, ⟨_, Nat.zero_le _, rfl, h0⟩, fun i m H ⟨hi, hm, p⟩ => ?_⟩
  have q := hG i H hi p
  rcases Nat.lt_or_ge i n with lt | ge
  · exact Or.inr ⟨w.goes i H lt q, Pv (i + 1), fun H' p' => ⟨n - (i + 1), by omega, lt, rfl, p'⟩, fun x H' y => hs i x H H' lt p (w.yields i H x H' lt q y)⟩
  · obtain rfl : i = n := Nat.le_antisymm hi ge
    exact Or.inl ⟨w.stops H q, hd H p⟩
theorem same_unlock {H H' : Hp} {d : Addr} {od : Obj} {u : HO} (hd : H d = some u) (s : Same (upd H d (.frz od u)) H') : Same H (upd H' d u) := fun b o e => by
  by_cases hb : b = d
  · subst hb
    rw [upd_same, ← hd]; exact e
  · rw [upd_ne hb]
    exact s b o (by rw [upd_ne hb]; exact e)
/-! ### books in plain words -/
structure Eff where
  nx : Str
  hold : Bool
  ring : Bool
  step : Option Int
  deriving DecidableEq
def stV : Option Int → V
  | some i => .int i
  | none => .str "whole"
def stD : Option Int → PyData
  | some i => .int i
  | none => .str "whole"
def effV (e : Eff) : List V := [.str e.nx, .bl e.hold, .bl e.ring, stV e.step]
def effD (e : Eff) : PyData := .tuple [.str e.nx, .bool e.hold, .bool e.ring, stD e.step]
theorem dp_st {K : PySem.W.Frag} {H : Hp} (i : Option Int) : Dp K H (stV i) (stD i) := by
  cases i with
  | none => exact .str _
  | some i => exact .int i
theorem dp_eff {K : PySem.W.Frag} {H : Hp} {a : Addr} {e : Eff} (h : SqT K H a (effV e)) : Dp K H (.ref a) (effD e) := .tup h (.cons (.str _) (.cons (.bl _) (.cons (.bl _) (.cons (dp_st _) .nil))))
def idle (s : Str) : Eff := ⟨s, false, false, some 0⟩
def ages : List Str := ["newer", "same", "elder"]
def GoodEff (states : List Str) (e : Eff) : Prop := e.nx ∈ states ∧ ∀ i, e.step = some i → -9 ≤ i ∧ i ≤ 9
def GoodKey (states sorts : List Str) (k : K3) : Prop := k.1 ∈ states ∧ k.2.1 ∈ sorts ∧ k.2.2 ∈ ages
/-- the rows of a book, as a dict from keys to effects -/
def RowsK (H : Hp) : List (List Key × V) → List (K3 × Eff) → Prop := Paired fun p q => p.1 = k3 q.1 ∧ ∃ a, p.2 = .ref a ∧ H a = some (.tup (effV q.2))
def RowsAt (H : Hp) (d : Addr) (rows : List (K3 × Eff)) : Prop := ∃ kvs, H d = some (.dT kvs) ∧ RowsK H kvs rows
def GoodRows (states sorts : List Str) (rows : List (K3 × Eff)) : Prop := (rows.map (·.1)).Nodup ∧ rows.length ≤ 100 ∧ ∀ p ∈ rows, GoodKey states sorts p.1 ∧ GoodEff states p.2
theorem RowsK.same {H H' : Hp} (s : Same H H') {kvs : List (List Key × V)} {rows : List (K3 × Eff)} (r : RowsK H kvs rows) : RowsK H' kvs rows := Paired.mapP r fun p q ⟨h1, a, h2, h3⟩ => ⟨h1, a, h2, s _ _ h3⟩
theorem RowsK.keys {H : Hp} : ∀ {kvs : List (List Key × V)} {rows : List (K3 × Eff)}, RowsK H kvs rows → kvs.map (·.1) = (rows.map (·.1)).map k3
  | _, _, .nil => rfl
  | _, _, .cons h t => by rw [List.map_cons, List.map_cons, List.map_cons, h.1, RowsK.keys t]
theorem RowsK.len {H : Hp} {kvs : List (List Key × V)} {rows : List (K3 × Eff)} (r : RowsK H kvs rows) : kvs.length = rows.length := Paired.length r
theorem RowsK.get {H : Hp} : ∀ {kvs : List (List Key × V)} {rows : List (K3 × Eff)} {i : Nat} {p : List Key × V}, RowsK H kvs rows → kvs[i]? = some p → ∃ q, rows[i]? = some q ∧ p.1 = k3 q.1 ∧ ∃ a, p.2 = .ref a ∧ H a = some (.tup (effV q.2))
  | _, _, i, p, .nil, e => by simp at e
  | _, _, 0, p, .cons h t, e => by simp at e; subst e; exact ⟨_, rfl, h⟩
  | _, _, i + 1, p, .cons h t, e => by
    obtain ⟨q, e1, e2⟩ := RowsK.get (i := i) t (by simpa using e)
    exact ⟨q, by simpa using e1, e2⟩
/-- what a row tells of a key -/
def effAt (rows : List (K3 × Eff)) (k : K3) : Option Eff := (rows.find? fun p => p.1 = k).map (·.2)
theorem effAt_nil (k : K3) : effAt [] k = none := rfl
theorem effAt_cons (p : K3 × Eff) (rows : List (K3 × Eff)) (k : K3) : effAt (p :: rows) k = if p.1 = k then some p.2 else effAt rows k := by
  unfold effAt
  rw [List.find?_cons]
  by_cases h : p.1 = k
  · rw [decide_eq_true h, if_pos h]; rfl
  · rw [decide_eq_false h, if_neg h]
theorem effAt_mem {rows : List (K3 × Eff)} {p : K3 × Eff} (nd : (rows.map (·.1)).Nodup) (hp : p ∈ rows) : effAt rows p.1 = some p.2 := by
  induction rows with
  | nil => cases hp
  | cons q rows ih =>
    rw [effAt_cons]
    rw [List.map_cons, List.nodup_cons] at nd
    rcases List.mem_cons.mp hp with rfl | hp
    · rw [if_pos rfl]
    · rw [if_neg (fun e : q.1 = p.1 => nd.1 (by rw [e]; exact List.mem_map_of_mem hp))]
      exact ih nd.2 hp
theorem mem_effAt {rows : List (K3 × Eff)} {k : K3} {e : Eff} (h : effAt rows k = some e) : (k, e) ∈ rows := by
  induction rows with
  | nil => cases h
  | cons q rows ih =>
    rw [effAt_cons] at h
    by_cases c : q.1 = k
    · rw [if_pos c] at h
      injection h with h
      subst c h
      exact List.mem_cons_self
    · rw [if_neg c] at h
      exact List.mem_cons_of_mem _ (ih h)
theorem valV_cons {κ : Type} [DecidableEq κ] (p : κ × V) (kvs : List (κ × V)) (k : κ) : valV (p :: kvs) k = if p.1 = k then some p.2 else valV kvs k := by
  unfold valV
  rw [List.find?_cons]
  by_cases h : p.1 = k
  · rw [decide_eq_true h, if_pos h]; rfl
  · rw [decide_eq_false h, if_neg h]
theorem RowsK.val {H : Hp} {k : K3} : ∀ {kvs : List (List Key × V)} {rows : List (K3 × Eff)}, RowsK H kvs rows → (∀ e, effAt rows k = some e → ∃ a, valV kvs (k3 k) = some (.ref a) ∧ H a = some (.tup (effV e))) ∧ (effAt rows k = none → valV kvs (k3 k) = none)
  | _, _, .nil => ⟨fun e h => (nomatch h), fun _ => rfl⟩
  | _, _, .cons (a := p) (b := q) h t => by
    have ih := RowsK.val (k := k) t
    rw [effAt_cons, valV_cons]
    by_cases c : q.1 = k
    · have c' : p.1 = k3 k := by rw [h.1, c]
      rw [if_pos c, if_pos c']
      obtain ⟨_, a, h2, h3⟩ := h
      refine ⟨fun e he => ?_, fun z => by cases z⟩
      injection he with he
      subst he
      exact ⟨a, by rw [h2], h3⟩
    · have c' : ¬ p.1 = k3 k := by rw [h.1]; exact fun z => c (k3_inj z)
      rw [if_neg c, if_neg c']
      exact ih
theorem inV_str (z : Str) : ∀ ws : List Str, inV (.str z) (ws.map V.str) = decide (z ∈ ws)
  | [] => by simp [inV]
  | y :: ws => by
    have ih := inV_str z ws
    unfold inV at ih ⊢
    rw [List.map_cons, List.any_cons, ih]
    show ((y == z) || _) = _
    by_cases c : z = y
    · subst c; simp
    · have c' : (y == z) = false := beq_eq_false_iff_ne.mpr fun e => c e.symm
      rw [c', Bool.false_or]
      simp [c]
theorem flat_strs (ws : List Str) : (ws.map V.str).all flatV = true := List.all_eq_true.mpr fun x hx => by
  obtain ⟨z, _, rfl⟩ := List.mem_map.mp hx
  rfl
end HN

namespace HN
open PySem L2
/-- the module's constants -/
structure Cons (K : PySem.W.Frag) (mg : Str → Option Value) : Prop where
  ag : ∃ a, mg "AGES" = some (.ref a) ∧ ∀ H, SqT K H a (ages.map V.str)
  wh : ∃ t, mg "WHOLE" = some (.str "whole" t)
def spIdle : Sp := fun vs H Q _ => ∃ (z : Str), vs = [.str z] ∧ ∀ p, H p = none → Q (.ref p) (upd H p (.tup (effV (idle z))))
def spIsKey (K : PySem.W.Frag) : Sp := fun vs H Q _ => ∃ (b s t : Addr) (k : K3) (states sorts : List Str), vs = [.ref b, .ref s, .ref t] ∧ H b = some (.tup (v3 k)) ∧ SqL K H s (states.map V.str) ∧ SqL K H t (sorts.map V.str) ∧ GoodKey states sorts k ∧ ∀ H', Same H H' → Q (.bl true) H'
def spIsStep : Sp := fun vs H Q _ => ∃ (i : Option Int), vs = [stV i] ∧ (∀ j, i = some j → -9 ≤ j ∧ j ≤ 9) ∧ Q (.bl true) H
def spIsEffect (K : PySem.W.Frag) : Sp := fun vs H Q _ => ∃ (b s : Addr) (e : Eff) (states : List Str), vs = [.ref b, .ref s] ∧ H b = some (.tup (effV e)) ∧ SqL K H s (states.map V.str) ∧ GoodEff states e ∧ ∀ H', Same H H' → Q (.bl true) H'
section
variable {P : Program} {w : World} {K : PySem.W.Frag} {mg : Str → Option Value} {base : Heap}
theorem iteE {c : Bool} {A B : Prop} (hc : c = true) (h : A) : if c = true then A else B := by
  subst hc
  exact iteT h
theorem iteEF {c : Bool} {A B : Prop} (hc : c = false) (h : B) : if c = true then A else B := by
  subst hc
  exact iteF h
theorem scIdle : FnScope ["state"] ["state"] (defScope sIdle) := ⟨rfl, rfl, rfl, by decide +kernel, rfl, by decide +kernel, by decide +kernel⟩
theorem ok_idle {f : Addr} {fd : FuncData} (D : Def K mg "idle_effect" sIdle ["state"] f fd) : FnOk P w K mg base CX0 1 f fd ["state"] spIdle := by
  refine D.F.ok scIdle (fun vs H Q E h => ?_) (fun cdv A outer s H vs Q E hr h => ?_)
  · obtain ⟨z, rfl, _⟩ := h
    rfl
  · obtain ⟨z, rfl, k⟩ := h
    refine ⟨_, pss_one (ps_ret (pe_tup (pa_cons (pv 0) (pa_cons pe_bl (pa_cons pe_bl (pa_cons pe_int pa_nil)))))), ?_⟩
    exact ⟨_, rfl, by show 4 ≤ sizeLine; decide, fun p hp => k p hp⟩
theorem scIsKey : FnScope ["thing", "states", "sorts"] ["thing", "states", "sorts"] (defScope sIsKey) := ⟨rfl, rfl, rfl, by decide +kernel, rfl, by decide +kernel, by decide +kernel⟩
theorem ok_isKey {f fL : Addr} {fd fdL : FuncData} (D : Def K mg "is_key" sIsKey ["thing", "states", "sorts"] f fd) (T : Txt K mg) (C : Cons K mg) (DL : Def K mg "is_list" sIsList ["thing"] fL fdL) : FnOk P w K mg base CX0 2 f fd ["thing", "states", "sorts"] (spIsKey K) := by
  have GL : FnOk P w K mg base CX0 1 fL fdL ["thing"] (spIsList K) := ok_isList DL T
  obtain ⟨aA, mA, sA⟩ := C.ag
  refine D.F.ok scIsKey (fun vs H Q E h => ?_) (fun cdv A outer s H vs Q E hr h => ?_)
  · obtain ⟨b, s, t, k, states, sorts, rfl, _⟩ := h
    rfl
  · obtain ⟨b, s, t, k3', states, sorts, rfl, hb, hs, ht, ⟨g1, g2, g3⟩, k⟩ := h
    refine ⟨_, pss_one (ps_ret (pe_and (pe_call GL hr (by rfl) DL.m DL.F.kp DL.b .nil pass0 (pa_cons (pv 0) pa_nil))
      (pe_and (pe_cmpR op_eq (pe_callB call_len_seq (by rfl) T.len PySem.boot_len (pa_cons (pv 0) pa_nil)) pe_int (nomark _))
      (pe_and (pe_cmpR op_in_seq (pe_ix ix_tup (pv 0) pe_int (fun _ _ => rfl)) (pv 1) (by rfl))
      (pe_and (pe_cmpR op_in_seq (pe_ix ix_tup (pv 0) pe_int (fun _ _ => rfl)) (pv 2) (by rfl))
      (pe_one (pe_cmpR op_in_seq (pe_ix ix_tup (pv 0) pe_int (fun _ _ => rfl)) (pe_glob (v := .ref aA) (by rfl) mA rfl) (by rfl)))))))), ?_⟩
    have dp : Dp K H (.ref b) (.tuple [.str k3'.1, .str k3'.2.1, .str k3'.2.2]) := .tup (SqT.of hb) (.cons (.str _) (.cons (.str _) (.cons (.str _) .nil)))
    refine ⟨_, rfl, _, _, rfl, dp, fun H1 s1 => ⟨_, rfl, ?_⟩⟩
    have hb1 := s1 _ _ hb
    refine ⟨_, rfl, b, _, rfl, .inr (SqT.of hb1), rfl, _, rfl, ?_⟩
    refine ⟨_, rfl, b, _, 0, _, rfl, rfl, SqT.of hb1, rfl, _, rfl, s, _, rfl, .inl (s1.seq hs), rfl, flat_strs _, _, rfl, ?_⟩
    rw [if_neg Bool.false_ne_true, inV_str, decide_eq_true g1]
    refine ⟨_, rfl, b, _, 1, _, rfl, rfl, SqT.of hb1, rfl, _, rfl, t, _, rfl, .inl (s1.seq ht), rfl, flat_strs _, _, rfl, ?_⟩
    rw [if_neg Bool.false_ne_true, inV_str, decide_eq_true g2]
    refine ⟨_, rfl, b, _, 2, _, rfl, rfl, SqT.of hb1, rfl, aA, _, rfl, .inr (sA H1), rfl, flat_strs _, ?_⟩
    rw [if_neg Bool.false_ne_true, inV_str, decide_eq_true g3]
    exact k H1 s1
theorem scIsStep : FnScope ["thing"] ["thing"] (defScope sIsStep) := ⟨rfl, rfl, rfl, by decide +kernel, rfl, by decide +kernel, by decide +kernel⟩
theorem ok_isStep {f fW fI : Addr} {fd fdW fdI : FuncData} (D : Def K mg "is_step" sIsStep ["thing"] f fd) (T : Txt K mg) (C : Cons K mg) (DW : Def K mg "is_int_within" sIsIntWithin ["thing", "least", "greatest"] fW fdW) (DI : Def K mg "is_int" sIsInt ["thing"] fI fdI) :
    FnOk P w K mg base CX0 3 f fd ["thing"] spIsStep := by
  have GW : FnOk P w K mg base CX0 2 fW fdW ["thing", "least", "greatest"] (spWithin K) := ok_within DW T DI
  obtain ⟨tW, mW⟩ := C.wh
  refine D.F.ok scIsStep (fun vs H Q E h => ?_) (fun cdv A outer s H vs Q E hr h => ?_)
  · obtain ⟨i, rfl, _⟩ := h
    rfl
  · obtain ⟨i, rfl, hi, k⟩ := h
    refine ⟨_, pss_one (ps_ret (pe_or (pe_call GW hr (by rfl) DW.m DW.F.kp DW.b .nil pass0 (pa_cons (pv 0) (pa_cons (pe_un un_neg pe_int) (pa_cons pe_int pa_nil))))
      (pe_one (pe_cmpR op_eq (pv 0) (pe_glob (v := .str "whole") (by rfl) mW ⟨_, rfl⟩) (nomark _))))), ?_⟩
    cases i with
    | some j =>
      obtain ⟨a1, a2⟩ := hi j rfl
      refine ⟨_, rfl, _, rfl, _, .int j, -9, 9, rfl, .int j, _, rfl, ?_⟩
      have e : dWithin (-9) 9 (.int j) = true := by simp [dWithin, a1, a2]
      exact iteE e k
    | none =>
      refine ⟨_, rfl, _, rfl, _, .str "whole", -9, 9, rfl, .str _, _, rfl, ?_⟩
      refine ⟨_, rfl, rfl, ?_⟩
      have e : decide (V.str "whole" = V.str "whole") = true := decide_eq_true rfl
      show Q (.bl (decide (V.str "whole" = V.str "whole"))) _
      rw [e]
      exact k
theorem scIsEffect : FnScope ["thing", "states"] ["thing", "states"] (defScope sIsEffect) := ⟨rfl, rfl, rfl, by decide +kernel, rfl, by decide +kernel, by decide +kernel⟩
theorem ok_isEffect {f fL fS fW fI : Addr} {fd fdL fdS fdW fdI : FuncData} (D : Def K mg "is_effect" sIsEffect ["thing", "states"] f fd) (T : Txt K mg) (C : Cons K mg) (DL : Def K mg "is_list" sIsList ["thing"] fL fdL) (DS : Def K mg "is_step" sIsStep ["thing"] fS fdS)
    (DW : Def K mg "is_int_within" sIsIntWithin ["thing", "least", "greatest"] fW fdW) (DI : Def K mg "is_int" sIsInt ["thing"] fI fdI) : FnOk P w K mg base CX0 4 f fd ["thing", "states"] (spIsEffect K) := by
  have GL : FnOk P w K mg base CX0 1 fL fdL ["thing"] (spIsList K) := ok_isList DL T
  have GS : FnOk P w K mg base CX0 3 fS fdS ["thing"] spIsStep := ok_isStep DS T C DW DI
  refine D.F.ok scIsEffect (fun vs H Q E h => ?_) (fun cdv A outer s H vs Q E hr h => ?_)
  · obtain ⟨b, s, e, states, rfl, _⟩ := h
    rfl
  · obtain ⟨b, s, e, states, rfl, hb, hs, ⟨g1, g2⟩, k⟩ := h
    refine ⟨_, pss_one (ps_ret (pe_and (pe_call GL (hr.mono (by decide)) (by rfl) DL.m DL.F.kp DL.b .nil pass0 (pa_cons (pv 0) pa_nil))
      (pe_and (pe_cmpR op_eq (pe_callB call_len_seq (by rfl) T.len PySem.boot_len (pa_cons (pv 0) pa_nil)) pe_int (nomark _))
      (pe_and (pe_cmpR op_in_seq (pe_ix ix_tup (pv 0) pe_int (fun _ _ => rfl)) (pv 1) (by rfl))
      (pe_and (pe_callB call_isi (by rfl) T.isi (by decide +kernel) (pa_cons (pe_ix ix_tup (pv 0) pe_int (fun _ _ => rfl)) (pa_cons (pe_bltn (v := .ty "bool") (by rfl) T.bool (by decide +kernel) rfl) pa_nil)))
      (pe_and (pe_callB call_isi (by rfl) T.isi (by decide +kernel) (pa_cons (pe_ix ix_tup (pv 0) pe_int (fun _ _ => rfl)) (pa_cons (pe_bltn (v := .ty "bool") (by rfl) T.bool (by decide +kernel) rfl) pa_nil)))
      (pe_one (pe_call GS hr (by rfl) DS.m DS.F.kp DS.b .nil pass0 (pa_cons (pe_ix ix_tup (pv 0) pe_int (fun _ _ => rfl)) pa_nil))))))))), ?_⟩
    refine ⟨_, rfl, _, _, rfl, dp_eff (SqT.of hb), fun H1 s1 => ⟨_, rfl, ?_⟩⟩
    have hb1 := s1 _ _ hb
    refine ⟨_, rfl, b, _, rfl, .inr (SqT.of hb1), rfl, _, rfl, ?_⟩
    refine ⟨_, rfl, b, _, 0, _, rfl, rfl, SqT.of hb1, rfl, _, rfl, s, _, rfl, .inl (s1.seq hs), rfl, flat_strs _, _, rfl, ?_⟩
    rw [if_neg Bool.false_ne_true, inV_str, decide_eq_true g1]
    refine ⟨_, rfl, b, _, 1, _, rfl, rfl, SqT.of hb1, rfl, _, .ty "bool", _, _, _, rfl, .ty "bool", .base (.bl _), kit_isD (d := .bool e.hold), _, rfl, ?_⟩
    rw [isD_bool]
    refine ⟨_, rfl, b, _, 2, _, rfl, rfl, SqT.of hb1, rfl, _, .ty "bool", _, _, _, rfl, .ty "bool", .base (.bl _), kit_isD (d := .bool e.ring), _, rfl, ?_⟩
    rw [isD_bool]
    refine ⟨_, rfl, b, _, 3, _, rfl, rfl, SqT.of hb1, rfl, e.step, rfl, g2, ?_⟩
    exact k H1 s1
end
end HN

namespace HN
open PySem L2
theorem strOk_word {z : Str} (h : isWord z = true) : (PyData.str z).canLay0 = true := by
  simp only [isWord, Bool.and_eq_true] at h
  have a := h.2.2.1
  rw [PyData.canLay0]
  unfold Txt.isascii at a
  unfold PyData.strOk
  rw [Array.all_eq_true] at a ⊢
  intro i hi
  have := a i hi
  simp only [decide_eq_true_eq] at this ⊢
  omega
theorem eqv_eff (e f : Eff) : PyData.eqv (effD e) (effD f) = decide (e = f) := by
  obtain ⟨n1, h1, r1, s1⟩ := e
  obtain ⟨n2, h2, r2, s2⟩ := f
  rw [Bool.eq_iff_iff]
  cases s1 <;> cases s2 <;> simp [effD, stD, PyData.eqv, PyData.eqvAll]
theorem shaped_eff {e : Eff} (h : isWord e.nx = true) : SeqAt.shaped (effD e) = true := by
  have a := strOk_word h
  unfold SeqAt.shaped
  have b : (effD e).canLay0 = true := by
    obtain ⟨n, ho, r, s⟩ := e
    cases s with
    | none => simp [effD, stD, PyData.canLay0, PyData.canLayAll0] at a ⊢; exact ⟨a, by decide +kernel⟩
    | some i => simp [effD, stD, PyData.canLay0, PyData.canLayAll0] at a ⊢; exact a
  have c : (effD e).depth ≤ 64 := by
    obtain ⟨n, ho, r, s⟩ := e
    cases s <;> simp [effD, stD, PyData.depth, PyData.depthAll]
  rw [b, decide_eq_true c]; rfl
/-- the effects that a book keeps: by keys upwards, the idle ones left out -/
def sortK (rows : List (K3 × Eff)) : List K3 := (rows.map (·.1)).mergeSort le3
def sortR (rows : List (K3 × Eff)) : List (K3 × Eff) := (sortK rows).map fun k => (k, (effAt rows k).getD (idle k.1))
def told (rows : List (K3 × Eff)) : List (K3 × Eff) := (sortR rows).filter fun p => decide (¬ p.2 = idle p.1.1)
theorem sortK_perm (rows : List (K3 × Eff)) : (sortK rows).Perm (rows.map (·.1)) := List.mergeSort_perm _ _
theorem sortK_nd {rows : List (K3 × Eff)} (nd : (rows.map (·.1)).Nodup) : (sortK rows).Nodup := (sortK_perm rows).nodup_iff.mpr nd
theorem sortR_keys (rows : List (K3 × Eff)) : (sortR rows).map (·.1) = sortK rows := by
  unfold sortR
  rw [List.map_map]
  exact List.map_id _
theorem sortK_has {rows : List (K3 × Eff)} (nd : (rows.map (·.1)).Nodup) {k : K3} (h : k ∈ sortK rows) : ∃ e, effAt rows k = some e ∧ (k, e) ∈ rows := by
  have h' := (sortK_perm rows).mem_iff.mp h
  obtain ⟨p, hp, rfl⟩ := List.mem_map.mp h'
  exact ⟨p.2, effAt_mem nd hp, hp⟩
theorem effAt_none {rows : List (K3 × Eff)} {k : K3} (h : k ∉ rows.map (·.1)) : effAt rows k = none := by
  induction rows with
  | nil => rfl
  | cons q rows ih =>
    rw [List.map_cons, List.mem_cons, not_or] at h
    rw [effAt_cons, if_neg (fun e => h.1 e.symm)]
    exact ih h.2
theorem RowsK.app {H : Hp} {kvs : List (List Key × V)} {rows : List (K3 × Eff)} (r : RowsK H kvs rows) {k : K3} {e : Eff} {a : Addr} (ha : H a = some (.tup (effV e))) : RowsK H (kvs ++ [(k3 k, .ref a)]) (rows ++ [(k, e)]) := by
  induction r with
  | nil => exact .cons ⟨rfl, a, rfl, ha⟩ .nil
  | cons h t ih => exact .cons h ih
/-- a key that is new goes behind the others -/
theorem RowsK.put {H : Hp} {kvs : List (List Key × V)} {rows : List (K3 × Eff)} (r : RowsK H kvs rows) {k : K3} {e : Eff} {a : Addr} (hk : k ∉ rows.map (·.1)) (ha : H a = some (.tup (effV e))) : RowsK H (putK kvs (k3 k) (.ref a)) (rows ++ [(k, e)]) := by
  rw [putK_new _ ((RowsK.val (k := k) r).2 (effAt_none hk))]
  exact r.app ha
theorem take_nd {α : Type} {l : List α} (nd : l.Nodup) {i : Nat} {x : α} (h : l[i]? = some x) : x ∉ l.take i := by
  intro hm
  obtain ⟨j, hj⟩ := List.mem_iff_getElem?.mp hm
  rw [List.getElem?_take] at hj
  obtain ⟨hi, ei⟩ := List.getElem?_eq_some_iff.mp h
  split at hj
  · rename_i hji
    obtain ⟨hl, e⟩ := List.getElem?_eq_some_iff.mp hj
    exact absurd (e.trans ei.symm) (List.pairwise_iff_getElem.mp nd j i hl hi hji)
  · cases hj
def rTupOf (K : PySem.W.Frag) : List V → Hp → VK → Prop := fun xs H Q => ∃ p ys, xs = [.ref p] ∧ ((SqL K H p ys ∧ ∀ l, H l = none → Q (.ref l) (upd H l (.tup ys))) ∨ (SqT K H p ys ∧ Q (.ref p) H))
theorem cr_tupOf {X : Cx} : CallR X (.type "tuple") (rTupOf X.K) := call_tuple_of
def spToldEffects (K : PySem.W.Frag) : Sp := fun vs H Q _ => ∃ (d s t : Addr) (rows : List (K3 × Eff)) (states sorts : List Str), vs = [.ref d, .ref s, .ref t] ∧ RowsAt H d rows ∧ SqL K H s (states.map V.str) ∧ SqL K H t (sorts.map V.str) ∧ GoodRows states sorts rows ∧ (∀ z ∈ states, isWord z = true) ∧
  ∀ p H', Same H H' → H p = none → RowsAt H' p (told rows) → Q (.ref p) H'
section
variable {P : Program} {w : World} {K : PySem.W.Frag} {mg : Str → Option Value} {base : Heap}
theorem scToldE : FnScope ["rows", "states", "sorts", "key", "effects"] ["rows", "states", "sorts"] (defScope sToldEffects) := ⟨rfl, rfl, rfl, by decide +kernel, rfl, by decide +kernel, by decide +kernel⟩
theorem ok_toldEffects {f fK fE fI : Addr} {fd fdK fdE fdI : FuncData} (D : Def K mg "told_effects" sToldEffects ["rows", "states", "sorts"] f fd) (T : Txt K mg)
    (DK : Def K mg "is_key" sIsKey ["thing", "states", "sorts"] fK fdK) (GK : FnOk P w K mg base CX0 2 fK fdK ["thing", "states", "sorts"] (spIsKey K))
    (DE : Def K mg "is_effect" sIsEffect ["thing", "states"] fE fdE) (GE : FnOk P w K mg base CX0 4 fE fdE ["thing", "states"] (spIsEffect K))
    (DI : Def K mg "idle_effect" sIdle ["state"] fI fdI) (GI : FnOk P w K mg base CX0 1 fI fdI ["state"] spIdle) : FnOk P w K mg base CX0 5 f fd ["rows", "states", "sorts"] (spToldEffects K) := by
  refine D.F.ok scToldE (fun vs H Q E h => ?_) (fun cdv A outer s H vs Q E hr h => ?_)
  · obtain ⟨d, s, t, rows, states, sorts, rfl, _⟩ := h
    rfl
  · obtain ⟨d, ls, lt, rows, states, sorts, rfl, ⟨kvs, hd, hrk⟩, hs, ht, ⟨nd, hlen, hgood⟩, hz, k⟩ := h
    have hu := hu_of hr
    have hun := hr.units
    have hu0 := Nat.lt_of_le_of_lt (Nat.le_add_right _ 64) hun
    refine ⟨_, pss_cons (ps_if (pt_not (pt_val (pe_callB call_isi (by rfl) T.isi (by decide +kernel) (pa_cons (pv 0) (pa_cons (pe_bltn (v := .ty "dict") (by rfl) T.dict (by decide +kernel) rfl) pa_nil))))) (pss_one ps_never) pss_nil)
      (pss_cons (ps_lock (ps_for PassesOwn.never rfl (pi_keys (pv 0)) (pg_name (i := 3) scToldE.nd rfl (Or.inl rfl))
        (pss_one (ps_if (PW.pt (pw_or (pt_not (pt_val (pe_call GK (hr.mono (by decide)) (by rfl) DK.m DK.F.kp DK.b .nil pass0 (pa_cons (pv 3) (pa_cons (pv 1) (pa_cons (pv 2) pa_nil))))))
          (pw_or1 (pt_not (pt_val (pe_call GE hr (by rfl) DE.m DE.F.kp DE.b .nil pass0 (pa_cons (pe_dget hu (pv 0) (pv 3) (fun _ _ => rfl)) (pa_cons (pv 1) pa_nil)))))))) (pss_one ps_never) pss_nil))))
      (pss_cons (ps_set (i := 4) scToldE.nd rfl (Or.inr rfl) (pe_dt (own := [("key", 3)]) (g := gName 3) (tt := tYes) hu0 rfl scToldE.nd (pi_list (pe_callB (call_sorted3 rfl hun) (by rfl) T.sorted (by decide +kernel) (pa_cons (pv 0) pa_nil)))
        (blkOk_by (N := ["rows", "states", "sorts", "key", "effects"]) (sc := defScope sToldEffects) (by decide +kernel)) (fun _ _ _ _ _ => pg_name (i := 3) scToldE.nd rfl (Or.inl rfl)) (fun _ _ _ _ _ => pts_nil) (fun _ _ _ _ _ => pv 3)
        (fun _ _ _ _ _ => pe_callTy (T := "tuple") (r := rTupOf K) cr_tupOf (by rfl) T.tuple (by decide +kernel) (pa_cons (pe_dget hu (pv 0) (pv 3) (fun _ _ => rfl)) pa_nil))))
      (pss_one (ps_ret (pe_lock (pe_dt (own := [("key", 3)]) (g := gName 3) hu0 rfl scToldE.nd (pi_keys (pv 4))
        (blkOk_by (N := ["rows", "states", "sorts", "key", "effects"]) (sc := defScope sToldEffects) (by decide +kernel)) (fun _ _ _ _ _ => pg_name (i := 3) scToldE.nd rfl (Or.inl rfl))
        (fun _ _ _ _ _ => pts_one (pt_cmpR (r := rNeD K) (op_neD hun) (pe_dget hu (pv 4) (pv 3) (fun _ _ => rfl)) (pe_call GI (hr.mono (by decide)) (by rfl) DI.m DI.F.kp DI.b .nil pass0 (pa_cons (pe_ix (r := rIxT K) ix_tup (pv 3) pe_int (fun _ _ => rfl)) pa_nil)) (nomark _)))
        (fun _ _ _ _ _ => pv 3) (fun _ _ _ _ _ => pe_dget hu (pv 4) (pv 3) (fun _ _ => rfl)))))))), ?_⟩
    refine ⟨_, rfl, _, .ty "dict", _, _, true, rfl, .ty "dict", .base (.dT hd), kit_ty (by decide +kernel), _, rfl, ?_⟩
    -- every row is looked at, the dict locked
    refine ⟨d, _, hd, trivial, fun od => ?_⟩
    have hL : upd H d (.frz od (.dT kvs)) d = some (.frz od (.dT kvs)) := upd_same
    refine ⟨_, rfl, d, od, rfl, .inr ⟨kvs, hL, for_it walk_keysT (fun i σ H' => ∃ kv, σ = [some (.ref d), some (.ref ls), some (.ref lt), kv, none] ∧ Same (upd H d (.frz od (.dT kvs))) H') ⟨none, rfl, Same.refl _⟩ (fun i σ H' _ ⟨_, _, q⟩ => q _ _ hL) (fun i x σ H' H'' hi ⟨kv, hσ, q⟩ ⟨hH, key, v, b, hkv, hx, hb⟩ => ?_) (fun σ H' ⟨kv, hσ, q⟩ => ?_)⟩⟩
    · have hH' := hH.symm
      subst hσ hH' hx
      obtain ⟨row, hrow, ek, a, ev, ha⟩ := RowsK.get hrk hkv
      obtain ⟨gk, ge⟩ := hgood row (List.mem_of_getElem? hrow)
      have ek' : key = k3 row.1 := ek
      subst ek'
      have ev' : v = .ref a := ev
      subst ev'
      have lockd : ∀ b o, H b = some o → b ≠ d → H' b = some o := fun b o e n => q b o (by rw [upd_ne n]; exact e)
      have nls : ∀ {l : Addr} {ws : List Str}, SqL K H l (ws.map V.str) → SqL K H' l (ws.map V.str) := by
        intro l ws hl
        have nd' : ∀ {u}, H l = some u → (∀ kv, u ≠ .dT kv) → l ≠ d := fun e n z => by
          rw [z, hd] at e
          exact n kvs (Option.some.inj e).symm
        rcases hl with (e | ⟨o, e⟩) | e
        · exact .inl (.inl (lockd _ _ e (nd' e fun _ z => nomatch z)))
        · exact .inl (.inr ⟨o, lockd _ _ e (nd' e fun _ z => nomatch z)⟩)
        · exact .inr e
      have ha' : H' a = some (.tup (effV row.2)) := lockd _ _ ha fun z => by
        rw [z, hd] at ha
        cases ha
      refine ⟨_, rfl, _, rfl, _, rfl, b, ls, lt, row.1, states, sorts, rfl, hb, nls hs, nls ht, gk, fun H1 s1 => ⟨_, rfl, ?_⟩⟩
      obtain ⟨a2, va, ha2⟩ := (RowsK.val (k := row.1) hrk).1 row.2 (effAt_mem nd (List.mem_of_getElem? hrow))
      have ha2' : H' a2 = some (.tup (effV row.2)) := lockd _ _ ha2 fun z => by
        rw [z, hd] at ha2
        cases ha2
      refine ⟨_, rfl, _, rfl, d, .ref a2, rfl, .inr ⟨kvs, k3 row.1, b, .inr ⟨od, s1 _ _ (q _ _ hL)⟩, rfl, s1 _ _ hb, va.symm⟩, _, rfl, a2, ls, row.2, states, rfl, s1 _ _ ha2', s1.seq (nls hs), ge, fun H2 s2 => ⟨_, rfl, ?_⟩⟩
      exact ⟨_, rfl, (q.trans s1).trans s2⟩
    -- behind it the dict is as it was
    subst hσ
    refine ⟨q _ _ hL, ?_⟩
    have s2 := same_unlock hd q
    obtain ⟨H2, hH2⟩ : ∃ H2, H2 = upd H' d (.dT kvs) := ⟨_, rfl⟩
    rw [← hH2] at s2 ⊢
    have hd2 := s2 _ _ hd
    refine ⟨_, rfl, d, kvs, rows.map (·.1), rfl, .inl hd2, RowsK.keys hrk, by rw [List.length_map]; omega, fun ps p hps0 hpt hp => ?_⟩
    have hps : ps.map (·.2) = sortK rows := hps0
    obtain ⟨H3, hH3⟩ : ∃ H3, H3 = upd H2 p (.lst (ps.map fun b => V.ref b.1)) := ⟨_, rfl⟩
    have s3 : Same H2 H3 := by rw [hH3]; exact same_new hp
    have hp3 : H3 p = some (.lst (ps.map fun b => V.ref b.1)) := by rw [hH3]; exact upd_same
    rw [← hH3]
    have knd := sortK_nd nd
    have lps : ps.length = (sortK rows).length := by rw [← hps, List.length_map]
    refine ⟨p, rfl, ⟨_, SqL.of hp3⟩, fun D hD => goT_it walk_list (fun i H' => Same H3 H' ∧ ∃ kv', H' D = some (.dT kv') ∧ RowsK H' kv' ((sortR rows).take i)) ⟨same_new hD, [], upd_same, by rw [List.take_zero]; exact .nil⟩ (fun i H' _ q => SqL.of (q.1 _ _ hp3)) (fun i x H' H'' hi q y => ?_) (fun H' q => ?_)⟩
    · obtain ⟨hH, hx⟩ := y
      subst hH
      rw [List.getElem?_map] at hx
      rw [List.length_map] at hi
      rw [List.getElem?_eq_getElem hi] at hx
      have hx' : x = V.ref ps[i].1 := (Option.some.inj hx).symm
      subst hx'
      obtain ⟨sq, kv', hD', rk'⟩ := q
      have hbi := hpt ps[i] (List.getElem_mem hi)
      have hki : (sortK rows)[i]? = some ps[i].2 := by
        have z := congrArg (fun l => l[i]?) hps
        simp only [List.getElem?_map, List.getElem?_eq_getElem hi, Option.map_some] at z
        exact z.symm
      obtain ⟨e, he, hmem⟩ := sortK_has nd (List.mem_of_getElem? hki)
      obtain ⟨a, va, ha⟩ := (RowsK.val (k := ps[i].2) hrk).1 e he
      have sH := s2.trans (s3.trans sq)
      have hb' := (s3.trans sq) _ _ hbi
      refine ⟨rfl, ?_⟩
      refine ⟨_, rfl, _, rfl, _, rfl, d, .ref a, rfl, DGet.t (sH _ _ hd) hb' |> fun z => va ▸ z, a, effV e, rfl, .inr ⟨SqT.of (sH _ _ ha), ?_⟩⟩
      have er : (sortR rows)[i]? = some (ps[i].2, e) := by
        unfold sortR
        rw [List.getElem?_map, hki, Option.map_some, he]; rfl
      refine ⟨kv', k3 ps[i].2, ps[i].1, rfl, hb', hD', ?_, ?_, ?_⟩
      · rw [RowsK.len rk', List.length_take]
        have : (sortR rows).length = rows.length := by rw [← List.length_map (f := (·.1)), sortR_keys, (sortK_perm rows).length_eq, List.length_map]
        exact Nat.lt_of_le_of_lt (by omega : _ ≤ 100) (by decide)
      · intro b o hbo
        rw [upd_ne (ne_of_none hbo hD)]
        exact sq b o hbo
      · refine ⟨_, upd_same, ?_⟩
        rw [take_more er]
        have sD : RowsK (upd H'' D (.dT (putK kv' (k3 ps[i].2) (.ref a)))) kv' ((sortR rows).take i) := Paired.mapP rk' fun x y ⟨h1, c, h2, h3⟩ => ⟨h1, c, h2, by rw [upd_ne (ne_of h3 hD' (fun z => nomatch z))]; exact h3⟩
        refine sD.put ?_ ?_
        · rw [List.map_take, sortR_keys]
          exact take_nd knd hki
        · have h3 := sH _ _ ha
          rw [upd_ne (ne_of h3 hD' (fun z => nomatch z))]; exact h3
    -- the idle ones are left out
    rw [List.length_map, lps] at q
    obtain ⟨s4, kv', hD', rk'⟩ := q
    have lsr : (sortR rows).length = (sortK rows).length := by rw [← sortR_keys, List.length_map]
    rw [List.take_of_length_le (Nat.le_of_eq lsr)] at rk'
    have sH := s2.trans (s3.trans s4)
    refine ⟨D, _, hD', trivial, fun od2 => ?_⟩
    obtain ⟨H5, hH5⟩ : ∃ H5, H5 = upd H' D (.frz od2 (.dT kv')) := ⟨_, rfl⟩
    have hD5 : H5 D = some (.frz od2 (.dT kv')) := by rw [hH5]; exact upd_same
    rw [← hH5]
    have s5 : ∀ b o, H' b = some o → b ≠ D → H5 b = some o := fun b o e n => by rw [hH5, upd_ne n]; exact e
    have nDrows : ∀ {a : Addr} {xs : List V}, H' a = some (.tup xs) → H5 a = some (.tup xs) := fun e => s5 _ _ e (ne_of e hD' (fun z => nomatch z))
    refine ⟨_, rfl, D, od2, rfl, .inr ⟨kv', hD5, fun D2 hD2 => goT_it walk_keysT (fun i H6 => Same H5 H6 ∧ ∃ kv2, H6 D2 = some (.dT kv2) ∧ RowsK H6 kv2 (((sortR rows).take i).filter fun p => decide (¬ p.2 = idle p.1.1))) ⟨same_new hD2, [], upd_same, by rw [List.take_zero]; exact .nil⟩ (fun i H6 _ q => q.1 _ _ hD5) (fun i x H6 H7 hi q y => ?_) (fun H6 q => ?_)⟩⟩
    · obtain ⟨hH, key, v, b, hkv, hx, hb⟩ := y
      have hH' := hH.symm
      subst hH' hx
      obtain ⟨s6, kv2, hD26, rk2⟩ := q
      obtain ⟨row, hrow, ek, a, ev, ha⟩ := RowsK.get rk' hkv
      have ek' : key = k3 row.1 := ek
      subst ek'
      have ev' : v = .ref a := ev
      subst ev'
      have nds : ((sortR rows).map (·.1)).Nodup := by rw [sortR_keys]; exact knd
      have hki : (sortK rows)[i]? = some row.1 := by rw [← sortR_keys, List.getElem?_map, hrow]; rfl
      obtain ⟨a1, va, ha1⟩ := (RowsK.val (k := row.1) rk').1 row.2 (effAt_mem nds (List.mem_of_getElem? hrow))
      have ha6 := s6 _ _ (nDrows ha1)
      have wk : isWord row.1.1 = true ∧ isWord row.2.nx = true := by
        obtain ⟨e, he, hm⟩ := sortK_has nd (List.mem_of_getElem? hki)
        have e2 : row.2 = e := by
          have : (sortR rows)[i]? = some (row.1, e) := by
            unfold sortR
            rw [List.getElem?_map, hki, Option.map_some, he]; rfl
          rw [this] at hrow
          exact (congrArg (·.2) (Option.some.inj hrow)).symm
        obtain ⟨g1, g2⟩ := hgood _ hm
        exact ⟨hz _ g1.1, by rw [e2]; exact hz _ g2.1⟩
      have dg : DGet H6 D (.ref b) (some (.ref a1)) := .inr ⟨kv', k3 row.1, b, .inr ⟨od2, s6 _ _ hD5⟩, rfl, hb, va.symm⟩
      refine ⟨rfl, ?_⟩
      refine ⟨_, rfl, _, rfl, D, .ref a1, rfl, dg, _, rfl, b, v3 row.1, 0, .str row.1.1, rfl, rfl, SqT.of hb, rfl, row.1.1, rfl, fun p7 hp7 => ?_⟩
      have s7 := same_new (o := .tup (effV (idle row.1.1))) hp7
      refine ⟨effD row.2, effD (idle row.1.1), dp_eff (SqT.of (s7 _ _ ha6)), dp_eff (SqT.of upd_same), shaped_eff wk.2, shaped_eff wk.1, _, rfl, ?_⟩
      rw [eqv_eff]
      have keep : Same H5 (upd H6 p7 (.tup (effV (idle row.1.1)))) := s6.trans s7
      have hD27 := s7 _ _ hD26
      have rk7 : RowsK (upd H6 p7 (.tup (effV (idle row.1.1)))) kv2 (((sortR rows).take i).filter fun p => decide (¬ p.2 = idle p.1.1)) := rk2.same s7
      by_cases c : row.2 = idle row.1.1
      · refine iteEF (by simp [c]) ?_
        refine ⟨keep, kv2, hD27, ?_⟩
        rw [take_more hrow, List.filter_append]
        have : ([row].filter fun p : K3 × Eff => decide (¬ p.2 = idle p.1.1)) = [] := by simp [c]
        rw [this, List.append_nil]
        exact rk7
      · refine iteE (by simp [c]) ?_
        refine ⟨_, rfl, _, rfl, _, rfl, D, .ref a1, rfl, .inr ⟨kv', k3 row.1, b, .inr ⟨od2, s7 _ _ (s6 _ _ hD5)⟩, rfl, s7 _ _ hb, va.symm⟩, ?_⟩
        refine ⟨kv2, k3 row.1, b, rfl, s7 _ _ hb, hD27, ?_, ?_, ?_⟩
        · rw [RowsK.len rk7]
          have z1 := List.length_filter_le (fun p : K3 × Eff => decide (¬ p.2 = idle p.1.1)) ((sortR rows).take i)
          have z2 : ((sortR rows).take i).length ≤ (sortR rows).length := by rw [List.length_take]; omega
          have z3 : (sortR rows).length = rows.length := by rw [lsr, (sortK_perm rows).length_eq, List.length_map]
          exact Nat.lt_of_le_of_lt (by omega : _ ≤ 100) (by decide)
        · intro b' o hbo
          rw [upd_ne (ne_of_none hbo hD2)]
          exact keep b' o hbo
        · refine ⟨_, upd_same, ?_⟩
          rw [take_more hrow, List.filter_append]
          have : ([row].filter fun p : K3 × Eff => decide (¬ p.2 = idle p.1.1)) = [row] := by simp [c]
          rw [this]
          have sD : RowsK (upd (upd H6 p7 (.tup (effV (idle row.1.1)))) D2 (.dT (putK kv2 (k3 row.1) (.ref a1)))) kv2 (((sortR rows).take i).filter fun p => decide (¬ p.2 = idle p.1.1)) := Paired.mapP rk7 fun x y ⟨h1, c', h2, h3⟩ => ⟨h1, c', h2, by rw [upd_ne (ne_of h3 hD27 (fun z => nomatch z))]; exact h3⟩
          refine sD.put (k := row.1) (e := row.2) ?_ ?_
          · intro hm
            obtain ⟨p', hp', e'⟩ := List.mem_map.mp hm
            have hp2 := (List.mem_filter.mp hp').1
            have : row.1 ∈ (sortK rows).take i := by
              rw [← sortR_keys, ← List.map_take]
              exact List.mem_map.mpr ⟨p', hp2, e'⟩
            exact take_nd knd hki this
          · have h3 := s7 _ _ ha6
            rw [upd_ne (ne_of h3 hD27 (fun z => nomatch z))]; exact h3
    · obtain ⟨s6, kv2, hD26, rk2⟩ := q
      refine ⟨s6 _ _ hD5, ?_⟩
      rw [RowsK.len rk', List.take_length] at rk2
      have s8 := same_unlock hD' (by rw [← hH5]; exact s6)
      have nDD : D2 ≠ D := fun z => by
        rw [z, hD5] at hD2
        cases hD2
      refine k D2 _ (sH.trans s8) ?_ ⟨kv2, by rw [upd_ne nDD]; exact hD26, Paired.mapP rk2 fun x y ⟨h1, c', h2, h3⟩ => ⟨h1, c', h2, ?_⟩⟩
      · have n5 : H' D2 = none := by
          rw [hH5, upd_ne nDD] at hD2
          exact hD2
        exact sH.free n5
      · have : c' ≠ D := ne_of h3 (s6 _ _ hD5) (fun z => nomatch z)
        rw [upd_ne this]; exact h3
end
end HN

namespace HN
open PySem L2
/-! ### worths -/
def wK (ws : List (Str × Int)) : List (Key × V) := ws.map fun p => (.inr p.1, .int p.2)
def WorthsAt (H : Hp) (c : Addr) (ws : List (Str × Int)) : Prop := H c = some (.dK (wK ws))
def GoodWorths (states : List Str) (ws : List (Str × Int)) : Prop := (ws.map (·.1)).Nodup ∧ ws.length ≤ 100 ∧ ∀ p ∈ ws, p.1 ∈ states ∧ -9 ≤ p.2 ∧ p.2 ≤ 9
def wAt (ws : List (Str × Int)) (z : Str) : Option Int := (ws.find? fun p => p.1 = z).map (·.2)
def wOf (ws : List (Str × Int)) (z : Str) : Int := (wAt ws z).getD 0
def toldW (ws : List (Str × Int)) : List (Str × Int) := ws.filter fun p => decide (¬ p.2 = 0)
theorem wAt_cons (p : Str × Int) (ws : List (Str × Int)) (z : Str) : wAt (p :: ws) z = if p.1 = z then some p.2 else wAt ws z := by
  unfold wAt
  rw [List.find?_cons]
  by_cases h : p.1 = z
  · rw [decide_eq_true h, if_pos h]; rfl
  · rw [decide_eq_false h, if_neg h]
theorem wAt_mem {ws : List (Str × Int)} {p : Str × Int} (nd : (ws.map (·.1)).Nodup) (hp : p ∈ ws) : wAt ws p.1 = some p.2 := by
  induction ws with
  | nil => cases hp
  | cons q ws ih =>
    rw [wAt_cons]
    rw [List.map_cons, List.nodup_cons] at nd
    rcases List.mem_cons.mp hp with rfl | hp
    · rw [if_pos rfl]
    · rw [if_neg (fun e : q.1 = p.1 => nd.1 (by rw [e]; exact List.mem_map_of_mem hp))]
      exact ih nd.2 hp
theorem wAt_none {ws : List (Str × Int)} {z : Str} (h : z ∉ ws.map (·.1)) : wAt ws z = none := by
  induction ws with
  | nil => rfl
  | cons q ws ih =>
    rw [List.map_cons, List.mem_cons, not_or] at h
    rw [wAt_cons, if_neg (fun e => h.1 e.symm)]
    exact ih h.2
theorem valV_wK (ws : List (Str × Int)) (z : Str) : valV (wK ws) (Sum.inr z) = (wAt ws z).map V.int := by
  induction ws with
  | nil => rfl
  | cons q ws ih =>
    show valV ((Sum.inr q.1, V.int q.2) :: wK ws) _ = _
    rw [valV_cons, wAt_cons]
    by_cases h : q.1 = z
    · rw [if_pos h, if_pos (by rw [h])]; rfl
    · rw [if_neg h, if_neg (fun e => h (Sum.inr.inj e))]; exact ih
theorem wK_len (ws : List (Str × Int)) : (wK ws).length = ws.length := List.length_map ..
theorem wK_get {ws : List (Str × Int)} {i : Nat} {k : Key} {v : V} (h : (wK ws)[i]? = some (k, v)) : ∃ p, ws[i]? = some p ∧ k = .inr p.1 ∧ v = .int p.2 := by
  unfold wK at h
  rw [List.getElem?_map] at h
  cases e : ws[i]? with
  | none => rw [e] at h; cases h
  | some p =>
    rw [e] at h
    have := Option.some.inj h
    exact ⟨p, rfl, (congrArg (·.1) this).symm, (congrArg (·.2) this).symm⟩
theorem putK_wK {ws : List (Str × Int)} {z : Str} {n : Int} (h : z ∉ ws.map (·.1)) : putK (wK ws) (Sum.inr z : Key) (.int n) = wK (ws ++ [(z, n)]) := by
  rw [putK_new _ (by rw [valV_wK, wAt_none h]; rfl)]
  unfold wK
  rw [List.map_append]; rfl
def spToldWorths (K : PySem.W.Frag) : Sp := fun vs H Q _ => ∃ (x : V) (s : Addr) (ws : List (Str × Int)) (states : List Str), vs = [x, .ref s] ∧ SqL K H s (states.map V.str) ∧ GoodWorths states ws ∧ ((x = .non ∧ ws = []) ∨ ∃ c, x = .ref c ∧ WorthsAt H c ws) ∧
  ∀ p H', Same H H' → H p = none → WorthsAt H' p (toldW ws) → Q (.ref p) H'
section
variable {P : Program} {w : World} {K : PySem.W.Frag} {mg : Str → Option Value} {base : Heap}
theorem scToldW : FnScope ["worths", "states", "word"] ["worths", "states"] (defScope sToldWorths) := ⟨rfl, rfl, rfl, by decide +kernel, rfl, by decide +kernel, by decide +kernel⟩
theorem ok_toldWorths {f fW : Addr} {fd fdW : FuncData} (D : Def K mg "told_worths" sToldWorths ["worths", "states"] f fd) (T : Txt K mg)
    (DW : Def K mg "is_int_within" sIsIntWithin ["thing", "least", "greatest"] fW fdW) (GW : FnOk P w K mg base CX0 2 fW fdW ["thing", "least", "greatest"] (spWithin K)) : FnOk P w K mg base CX0 3 f fd ["worths", "states"] (spToldWorths K) := by
  refine D.F.ok scToldW (fun vs H Q E h => ?_) (fun cdv A outer s H vs Q E hr h => ?_)
  · obtain ⟨x, s, ws, states, rfl, _⟩ := h
    rfl
  · obtain ⟨x, ls, ws, states, rfl, hs, ⟨nd, hlen, hg⟩, hx, k⟩ := h
    have hu := hu_of hr
    refine ⟨_, pss_cons (ps_if (pt_cmp (pc_isN (pv 0))) (pss_one (ps_ret pe_dnewK)) pss_nil)
      (pss_cons (ps_if (pt_not (pt_val (pe_callB call_isi (by rfl) T.isi (by decide +kernel) (pa_cons (pv 0) (pa_cons (pe_bltn (v := .ty "dict") (by rfl) T.dict (by decide +kernel) rfl) pa_nil))))) (pss_one ps_never) pss_nil)
      (pss_cons (ps_lock (ps_for PassesOwn.never rfl (pi_keys (pv 0)) (pg_name (i := 2) scToldW.nd rfl (Or.inl rfl))
        (pss_one (ps_if (PW.pt (pw_or (pt_cmpR op_notIn_seq (pv 2) (pv 1) (by rfl))
          (pw_or1 (pt_not (pt_val (pe_call GW hr (by rfl) DW.m DW.F.kp DW.b .nil pass0 (pa_cons (pe_dget hu (pv 0) (pv 2) (fun _ _ => rfl)) (pa_cons (pe_un un_neg pe_int) (pa_cons pe_int pa_nil))))))))) (pss_one ps_never) pss_nil))))
      (pss_one (ps_ret (pe_lock (pe_dc (own := [("word", 2)]) (g := gName 2) rfl scToldW.nd (pi_keys (pv 0))
        (blkOk_by (N := ["worths", "states", "word"]) (sc := defScope sToldWorths) (by decide +kernel)) (fun _ _ _ _ _ => pg_name (i := 2) scToldW.nd rfl (Or.inl rfl))
        (fun _ _ _ _ _ => pts_one (pt_cmpR (r := rNe) op_ne (pe_dget hu (pv 0) (pv 2) (fun _ _ => rfl)) pe_int (nomark _)))
        (fun _ _ _ _ _ => pv 2) (fun _ _ _ _ _ => pe_dget hu (pv 0) (pv 2) (fun _ _ => rfl)))))))), ?_⟩
    rcases hx with ⟨rfl, rfl⟩ | ⟨d, rfl, hd⟩
    · exact ⟨_, rfl, _, rfl, fun p hp => k p _ (same_new hp) hp upd_same⟩
    refine ⟨_, rfl, _, rfl, ?_⟩
    refine ⟨_, rfl, _, .ty "dict", _, _, true, rfl, .ty "dict", .base (.dK hd), kit_ty (by decide +kernel), _, rfl, ?_⟩
    refine ⟨d, _, hd, trivial, fun od => ?_⟩
    have hL : upd H d (.frz od (.dK (wK ws))) d = some (.frz od (.dK (wK ws))) := upd_same
    have nls : ∀ {H' : Hp}, Same (upd H d (.frz od (.dK (wK ws)))) H' → SqL K H' ls (states.map V.str) := by
      intro H' q
      have nd' : ∀ {u}, H ls = some u → (∀ kv, u ≠ .dK kv) → ls ≠ d := fun e n z => by
        rw [z, hd] at e
        exact n _ (Option.some.inj e).symm
      rcases hs with (e | ⟨o, e⟩) | e
      · exact .inl (.inl (q _ _ (by rw [upd_ne (nd' e fun _ z => nomatch z)]; exact e)))
      · exact .inl (.inr ⟨o, q _ _ (by rw [upd_ne (nd' e fun _ z => nomatch z)]; exact e)⟩)
      · exact .inr e
    refine ⟨_, rfl, d, od, rfl, .inl ⟨wK ws, hL, for_it walk_keys (fun i σ H' => ∃ kv, σ = [some (.ref d), some (.ref ls), kv] ∧ Same (upd H d (.frz od (.dK (wK ws)))) H') ⟨none, rfl, Same.refl _⟩ (fun i σ H' _ ⟨_, _, q⟩ => q _ _ hL) (fun i x σ H' H'' hi ⟨kv, hσ, q⟩ y => ?_) (fun σ H' ⟨kv, hσ, q⟩ => ?_)⟩⟩
    · obtain ⟨hH, key, v, hkv, hx⟩ := y
      obtain ⟨p, hp, ek, ev⟩ := wK_get hkv
      subst hσ hH hx ek ev
      have hm := List.mem_of_getElem? hp
      obtain ⟨g1, g2, g3⟩ := hg p hm
      refine ⟨_, rfl, _, rfl, ls, _, rfl, .inl (nls q), rfl, flat_strs _, _, rfl, ?_⟩
      have hin : inV (kV (Sum.inr p.1)) (states.map V.str) = true := (inV_str _ _).trans (decide_eq_true g1)
      rw [if_pos rfl]
      refine iteEF (by rw [hin]; rfl) ?_
      refine ⟨_, rfl, _, rfl, d, .int p.2, rfl, .inl ⟨_, Sum.inr p.1, .inr ⟨od, q _ _ hL⟩, rfl, by rw [valV_wK, wAt_mem nd hm]; rfl⟩, _, rfl, _, .int p.2, -9, 9, rfl, .int _, _, rfl, ?_⟩
      have e : dWithin (-9) 9 (.int p.2) = true := by simp [dWithin, g2, g3]
      refine iteEF (by rw [e]; rfl) ?_
      exact ⟨_, rfl, q⟩
    subst hσ
    refine ⟨q _ _ hL, ?_⟩
    have s2 := same_unlock hd q
    obtain ⟨H2, hH2⟩ : ∃ H2, H2 = upd H' d (.dK (wK ws)) := ⟨_, rfl⟩
    rw [← hH2] at s2 ⊢
    have hd2 := s2 _ _ hd
    refine ⟨d, _, hd2, trivial, fun od2 => ?_⟩
    obtain ⟨H5, hH5⟩ : ∃ H5, H5 = upd H2 d (.frz od2 (.dK (wK ws))) := ⟨_, rfl⟩
    have hD5 : H5 d = some (.frz od2 (.dK (wK ws))) := by rw [hH5]; exact upd_same
    rw [← hH5]
    refine ⟨_, rfl, d, od2, rfl, .inl ⟨wK ws, hD5, fun D2 hD2 => dc_it walk_keys (fun i H6 => Same H5 H6 ∧ H6 D2 = some (.dK (wK ((ws.take i).filter fun p => decide (¬ p.2 = 0))))) ⟨same_new hD2, by rw [upd_same]; rfl⟩ (fun i H6 _ q => q.1 _ _ hD5) (fun i x H6 H7 hi q y => ?_) (fun H6 q => ?_)⟩⟩
    · obtain ⟨hH, key, v, hkv, hx⟩ := y
      obtain ⟨p, hp, ek, ev⟩ := wK_get hkv
      subst hH hx ek ev
      obtain ⟨s6, h6⟩ := q
      have hm := List.mem_of_getElem? hp
      have dg : DGet H7 d (.str p.1) (some (.int p.2)) := .inl ⟨_, Sum.inr p.1, .inr ⟨od2, s6 _ _ hD5⟩, rfl, by rw [valV_wK, wAt_mem nd hm]; rfl⟩
      refine ⟨rfl, ?_⟩
      refine ⟨_, rfl, _, rfl, d, .int p.2, rfl, dg, rfl, _, rfl, ?_⟩
      have ed : decide (V.int p.2 = V.int 0) = decide (p.2 = 0) := by simp
      by_cases c : p.2 = 0
      · refine iteEF (by rw [ed]; simp [c]) ⟨s6, ?_⟩
        rw [take_more hp, List.filter_append]
        have : ([p].filter fun p : Str × Int => decide (¬ p.2 = 0)) = [] := by simp [c]
        rw [this, List.append_nil]
        exact h6
      · refine iteE (by rw [ed]; simp [c]) ?_
        refine ⟨_, rfl, _, rfl, _, rfl, d, .int p.2, rfl, dg, _, Sum.inr p.1, rfl, h6, ?_, ?_, ?_⟩
        · rw [wK_len]
          have z1 := List.length_filter_le (fun p : Str × Int => decide (¬ p.2 = 0)) (ws.take i)
          have z2 : (ws.take i).length ≤ ws.length := by rw [List.length_take]; omega
          exact Nat.lt_of_le_of_lt (by omega : _ ≤ 100) (by decide)
        · intro b' o hbo
          rw [upd_ne (ne_of_none hbo hD2)]
          exact s6 b' o hbo
        · rw [upd_same, putK_wK, take_more hp, List.filter_append]
          · have : ([p].filter fun p : Str × Int => decide (¬ p.2 = 0)) = [p] := by simp [c]
            rw [this]
          · intro hm2
            obtain ⟨p', hp', e'⟩ := List.mem_map.mp hm2
            have hp2 := (List.mem_filter.mp hp').1
            have hk : (ws.map (·.1))[i]? = some p.1 := by rw [List.getElem?_map, hp]; rfl
            refine take_nd nd hk ?_
            rw [← List.map_take]
            exact List.mem_map.mpr ⟨p', hp2, e'⟩
    · obtain ⟨s6, h6⟩ := q
      rw [wK_len, List.take_length] at h6
      refine ⟨s6 _ _ hD5, ?_⟩
      have s8 := same_unlock hd2 (by rw [← hH5]; exact s6)
      have nDD : D2 ≠ d := fun z => by
        rw [z, hD5] at hD2
        cases hD2
      refine k D2 _ (s2.trans s8) ?_ (by unfold WorthsAt; rw [upd_ne nDD]; exact h6)
      have n5 : H2 D2 = none := by
        rw [hH5, upd_ne nDD] at hD2
        exact hD2
      exact s2.free n5
end
end HN

namespace HN
open PySem L2
abbrev sBInit : Stmt := inClass sBook 0
abbrev sBStates : Stmt := inClass sBook 2
abbrev sBSorts : Stmt := inClass sBook 3
abbrev sBFirst : Stmt := inClass sBook 4
abbrev sBWorth : Stmt := inClass sBook 5
abbrev sBEffect : Stmt := inClass sBook 6
abbrev sBRows : Stmt := inClass sBook 7
structure Bk where
  states : List Str
  sorts : List Str
  first : Str
  rows : List (K3 × Eff)
  worths : List (Str × Int)
def bkF (s t : Addr) (first : Str) (e w tr : Addr) : List (Str × V) := putF "_traits" (.ref tr) (putF "_worths" (.ref w) (putF "_effects" (.ref e) (putF "_first" (.str first) (putF "_sorts" (.ref t) (putF "_states" (.ref s) [])))))
def BookAt (C : Addr) (H : Hp) (p : Addr) (B : Bk) : Prop := ∃ dx s t e w tr, H p = some (.ins C dx (bkF s t B.first e w tr)) ∧ H s = some (.lst (B.states.map V.str)) ∧ H t = some (.lst (B.sorts.map V.str)) ∧ RowsAt H e B.rows ∧ WorthsAt H w B.worths
theorem RowsAt.same {H H' : Hp} (s : Same H H') {d : Addr} {rows : List (K3 × Eff)} (r : RowsAt H d rows) : RowsAt H' d rows := let ⟨kvs, h1, h2⟩ := r; ⟨kvs, s _ _ h1, h2.same s⟩
theorem BookAt.same {C : Addr} {H H' : Hp} (sm : Same H H') {p : Addr} {B : Bk} (b : BookAt C H p B) : BookAt C H' p B := let ⟨dx, s, t, e, w, tr, h1, h2, h3, h4, h5⟩ := b; ⟨dx, s, t, e, w, tr, sm _ _ h1, sm _ _ h2, sm _ _ h3, h4.same sm, sm _ _ h5⟩
section
variable (s t : Addr) (first : Str) (e w tr : Addr)
theorem bkF_states : (bkF s t first e w tr).lookup ("_states" : Str) = some (V.ref s) := by
  unfold bkF
  rw [lookup_putF, if_neg (by decide +kernel), lookup_putF, if_neg (by decide +kernel), lookup_putF, if_neg (by decide +kernel), lookup_putF, if_neg (by decide +kernel), lookup_putF, if_neg (by decide +kernel), lookup_putF, if_pos rfl]
theorem bkF_sorts : (bkF s t first e w tr).lookup ("_sorts" : Str) = some (V.ref t) := by
  unfold bkF
  rw [lookup_putF, if_neg (by decide +kernel), lookup_putF, if_neg (by decide +kernel), lookup_putF, if_neg (by decide +kernel), lookup_putF, if_neg (by decide +kernel), lookup_putF, if_pos rfl]
theorem bkF_first : (bkF s t first e w tr).lookup ("_first" : Str) = some (V.str first) := by
  unfold bkF
  rw [lookup_putF, if_neg (by decide +kernel), lookup_putF, if_neg (by decide +kernel), lookup_putF, if_neg (by decide +kernel), lookup_putF, if_pos rfl]
theorem bkF_effects : (bkF s t first e w tr).lookup ("_effects" : Str) = some (V.ref e) := by
  unfold bkF
  rw [lookup_putF, if_neg (by decide +kernel), lookup_putF, if_neg (by decide +kernel), lookup_putF, if_pos rfl]
theorem bkF_worths : (bkF s t first e w tr).lookup ("_worths" : Str) = some (V.ref w) := by
  unfold bkF
  rw [lookup_putF, if_neg (by decide +kernel), lookup_putF, if_pos rfl]
theorem bkF_no {m : Str} (h : m ∉ (["_traits", "_worths", "_effects", "_first", "_sorts", "_states"] : List Str)) : (bkF s t first e w tr).lookup m = none := by
  simp only [List.mem_cons, List.not_mem_nil, or_false, not_or] at h
  obtain ⟨h1, h2, h3, h4, h5, h6⟩ := h
  unfold bkF
  rw [lookup_putF, if_neg h1, lookup_putF, if_neg h2, lookup_putF, if_neg h3, lookup_putF, if_neg h4, lookup_putF, if_neg h5, lookup_putF, if_neg h6]; rfl
end
theorem putF_len (f : Str) (v : V) : ∀ fs : List (Str × V), (putF f v fs).length ≤ fs.length + 1
  | [] => Nat.le_refl _
  | (g, u) :: fs => by
    show (if g = f then (g, v) :: fs else (g, u) :: putF f v fs).length ≤ _
    split
    · simp
    · have := putF_len f v fs; simp; omega
theorem But.seqI {K : PySem.W.Frag} {d C dx : Addr} {fs : List (Str × V)} {H H' : Hp} {a : Addr} {xs : List V} (e : But d H H') (hd : H d = some (.ins C dx fs)) (h : SqL K H a xs) : SqL K H' a xs := by
  rcases h with (h | ⟨o, h⟩) | h
  · exact .inl (.inl (e _ _ (ne_of h hd (fun z => nomatch z)) h))
  · exact .inl (.inr ⟨o, e _ _ (ne_of h hd (fun z => nomatch z)) h⟩)
  · exact .inr h
theorem But.rowsI {d C dx : Addr} {fs : List (Str × V)} {H H' : Hp} {a : Addr} {rows : List (K3 × Eff)} (e : But d H H') (hd : H d = some (.ins C dx fs)) (h : RowsAt H a rows) : RowsAt H' a rows := by
  obtain ⟨kvs, h1, h2⟩ := h
  exact ⟨kvs, e _ _ (ne_of h1 hd (fun z => nomatch z)) h1, Paired.mapP h2 fun x y ⟨a1, c, a2, a3⟩ => ⟨a1, c, a2, e _ _ (ne_of a3 hd (fun z => nomatch z)) a3⟩⟩
theorem But.worthsI {d C dx : Addr} {fs : List (Str × V)} {H H' : Hp} {a : Addr} {ws : List (Str × Int)} (e : But d H H') (hd : H d = some (.ins C dx fs)) (h : WorthsAt H a ws) : WorthsAt H' a ws := e _ _ (ne_of h hd (fun z => nomatch z)) h
/-- what a store into an instance leaves -/
theorem but_put {d C dx : Addr} {fs : List (Str × V)} {H : Hp} : But d H (upd H d (.ins C dx fs)) := But.upd
structure BookC (K : PySem.W.Frag) (mg : Str → Option Value) (C : Addr) : Prop where
  cl : Cls K C
  n1 : NoAttr K C "_states"
  n2 : NoAttr K C "_sorts"
  n3 : NoAttr K C "_first"
  n4 : NoAttr K C "_effects"
  n5 : NoAttr K C "_worths"
  n6 : NoAttr K C "_traits"
  mgC : mg "Book" = some (.ref C)
def GoodBk (B : Bk) : Prop := Wds 4 B.states ∧ Wds 3 B.sorts ∧ B.first ∈ B.states ∧ GoodRows B.states B.sorts B.rows ∧ GoodWorths B.states B.worths
def toldB (B : Bk) : Bk := { B with rows := told B.rows, worths := toldW B.worths }
def spBInit (K : PySem.W.Frag) (C : Addr) : Sp := fun vs H Q _ => ∃ (p dx ls lt d : Addr) (x : V) (B : Bk), vs = [.ref p, .ref ls, .ref lt, .str B.first, .ref d, x] ∧ H p = some (.ins C dx []) ∧ SqL K H ls (B.states.map V.str) ∧ SqL K H lt (B.sorts.map V.str) ∧ RowsAt H d B.rows ∧
  ((x = .non ∧ B.worths = []) ∨ ∃ c, x = .ref c ∧ WorthsAt H c B.worths) ∧ GoodBk B ∧ ∀ H', (∀ b o, b ≠ p → H b = some o → H' b = some o) → BookAt C H' p (toldB B) → Q .non H'
section
variable {P : Program} {w : World} {K : PySem.W.Frag} {mg : Str → Option Value} {base : Heap}
theorem scBInit : FnScope ["self", "states", "sorts", "first", "rows", "worths"] ["self", "states", "sorts", "first", "rows", "worths"] (defScope sBInit) := ⟨rfl, rfl, rfl, by decide +kernel, rfl, by decide +kernel, by decide +kernel⟩
theorem ok_bInit {f C fL fE fW : Addr} {fd fdL fdE fdW : FuncData} (F : FunD K "__init__" "Book.__init__" (defArgs sBInit) (defBody sBInit) (defScope sBInit) [] [("worths", .non)] f fd) (T : Txt K mg) (BC : BookC K mg C)
    (DL : Def K mg "is_word_list" sIsWordList ["thing", "most"] fL fdL) (GL : FnOk P w K mg base CX0 2 fL fdL ["thing", "most"] (spWordList K))
    (DE : Def K mg "told_effects" sToldEffects ["rows", "states", "sorts"] fE fdE) (GE : FnOk P w K mg base CX0 5 fE fdE ["rows", "states", "sorts"] (spToldEffects K))
    (DW : Def K mg "told_worths" sToldWorths ["worths", "states"] fW fdW) (GW : FnOk P w K mg base CX0 3 fW fdW ["worths", "states"] (spToldWorths K)) :
    FnOk P w K mg base CX0 6 f fd ["self", "states", "sorts", "first", "rows", "worths"] (spBInit K C) := by
  refine F.ok scBInit (fun vs H Q E h => ?_) (fun cdv A outer s H vs Q E hr h => ?_)
  · obtain ⟨p, dx, ls, lt, d, x, B, rfl, _⟩ := h
    rfl
  · obtain ⟨p, dx, ls, lt, d, x, ⟨states, sorts, first, rows, worths⟩, rfl, hp, hs, ht, hd, hx, ⟨g1, g2, g3, g4, g5⟩, k⟩ := h
    refine ⟨_, PSs.nox (pss_cons (ps_if (pt_not (pt_val (pe_call GL (hr.mono (by decide)) (by rfl) DL.m DL.F.kp DL.b .nil pass0 (pa_cons (pv 1) (pa_cons pe_int pa_nil))))) (pss_one ps_never) pss_nil)
      (pss_cons (ps_if (pt_not (pt_val (pe_call GL (hr.mono (by decide)) (by rfl) DL.m DL.F.kp DL.b .nil pass0 (pa_cons (pv 2) (pa_cons pe_int pa_nil))))) (pss_one ps_never) pss_nil)
      (pss_cons (ps_if (pt_cmpR op_notIn_seq (pv 3) (pv 1) (by rfl)) (pss_one ps_never) pss_nil)
      (pss_cons (ps_fld (pv 0) (pe_callTy call_list_of (by rfl) T.list (by decide +kernel) (pa_cons (pv 1) pa_nil)) rfl)
      (pss_cons (ps_fld (pv 0) (pe_callTy call_list_of (by rfl) T.list (by decide +kernel) (pa_cons (pv 2) pa_nil)) rfl)
      (pss_cons (ps_fld (pv 0) (pv 3) rfl)
      (pss_cons (ps_fld (pv 0) (pe_call GE hr (by rfl) DE.m DE.F.kp DE.b .nil pass0 (pa_cons (pv 4) (pa_cons (pv 1) (pa_cons (pv 2) pa_nil)))) rfl)
      (pss_cons (ps_fld (pv 0) (pe_call GW (hr.mono (by decide)) (by rfl) DW.m DW.F.kp DW.b .nil pass0 (pa_cons (pv 5) (pa_cons (pv 1) pa_nil))) rfl)
      (pss_one (ps_fld (pv 0) (pe_tup (pa_cons (pe_callB cr_sortedS (by rfl) T.sorted (by decide +kernel) (pa_cons (pv 1) pa_nil)) (pa_cons (pe_callB cr_sortedS (by rfl) T.sorted (by decide +kernel) (pa_cons (pv 2) pa_nil))
        (pa_cons (pv 3) (pa_cons (pe_fld (pv 0) rfl) (pa_cons (pe_fld (pv 0) rfl) pa_nil)))))) rfl)))))))))), ?_⟩
    refine ⟨_, rfl, ls, states, 4, rfl, hs, by decide, g1, fun H1 s1 => ⟨_, rfl, ?_⟩⟩
    refine ⟨_, rfl, lt, sorts, 3, rfl, s1.seq ht, by decide, g2, fun H2 s2 => ⟨_, rfl, ?_⟩⟩
    have s02 := s1.trans s2
    have hp2 := s02 _ _ hp
    refine ⟨_, rfl, _, rfl, ls, _, rfl, .inl (s02.seq hs), rfl, flat_strs _, _, rfl, ?_⟩
    have hin : inV (V.str first) (states.map V.str) = true := (inV_str _ _).trans (decide_eq_true g3)
    rw [if_pos rfl]
    refine iteEF (by rw [hin]; rfl) ?_
    -- self._states = list(states)
    refine ⟨_, rfl, ls, _, rfl, .inl (s02.seq hs), fun as has => ⟨_, rfl, p, C, dx, [], rfl, same_new has _ _ hp2, BC.cl, BC.n1, by show 0 < 1000; decide, ?_⟩⟩
    have b3 : But p H (upd (upd H2 as (.lst (states.map V.str))) p (.ins C dx (putF "_states" (.ref as) []))) := (But.of (s02.trans (same_new has))).trans but_put
    have has3 : (upd (upd H2 as (.lst (states.map V.str))) p (.ins C dx (putF "_states" (.ref as) []))) as = some (.lst (states.map V.str)) := by
      rw [upd_ne (ne_of_none hp2 has).symm, upd_same]
    generalize hH3 : upd (upd H2 as (.lst (states.map V.str))) p (.ins C dx (putF "_states" (.ref as) [])) = H3 at b3 has3 ⊢
    have hp3 : H3 p = some (.ins C dx (putF "_states" (.ref as) [])) := by rw [← hH3]; exact upd_same
    -- self._sorts = list(sorts)
    refine ⟨_, rfl, lt, _, rfl, .inl (b3.seqI hp ht), fun at' hat => ⟨_, rfl, p, C, dx, _, rfl, same_new hat _ _ hp3, BC.cl, BC.n2, by show 1 < 1000; decide, ?_⟩⟩
    have b4 : But p H3 (upd (upd H3 at' (.lst (sorts.map V.str))) p (.ins C dx (putF "_sorts" (.ref at') (putF "_states" (.ref as) [])))) := (But.of (same_new hat)).trans but_put
    have hat4 : (upd (upd H3 at' (.lst (sorts.map V.str))) p (.ins C dx (putF "_sorts" (.ref at') (putF "_states" (.ref as) [])))) at' = some (.lst (sorts.map V.str)) := by
      rw [upd_ne (ne_of_none hp3 hat).symm, upd_same]
    generalize hH4 : upd (upd H3 at' (.lst (sorts.map V.str))) p (.ins C dx (putF "_sorts" (.ref at') (putF "_states" (.ref as) []))) = H4 at b4 hat4 ⊢
    have hp4 : H4 p = some (.ins C dx (putF "_sorts" (.ref at') (putF "_states" (.ref as) []))) := by rw [← hH4]; exact upd_same
    -- self._first = first
    refine ⟨_, rfl, _, rfl, p, C, dx, _, rfl, hp4, BC.cl, BC.n3, Nat.lt_of_le_of_lt (Nat.le_trans (putF_len _ _ _) (Nat.succ_le_succ (putF_len _ _ _))) (by decide), ?_⟩
    have b5 : But p H4 (upd H4 p (.ins C dx (putF "_first" (.str first) (putF "_sorts" (.ref at') (putF "_states" (.ref as) []))))) := but_put
    generalize hH5 : upd H4 p (.ins C dx (putF "_first" (.str first) (putF "_sorts" (.ref at') (putF "_states" (.ref as) [])))) = H5 at b5 ⊢
    have hp5 : H5 p = some (.ins C dx (putF "_first" (.str first) (putF "_sorts" (.ref at') (putF "_states" (.ref as) [])))) := by rw [← hH5]; exact upd_same
    have b05 := (b3.trans b4).trans b5
    -- self._effects = told_effects(rows, states, sorts)
    refine ⟨_, rfl, _, rfl, _, rfl, d, ls, lt, rows, states, sorts, rfl, b05.rowsI hp hd, b05.seqI hp hs, b05.seqI hp ht, g4, g1.2.2.2, fun ae H6 s6 hae hre => ⟨_, rfl, p, C, dx, _, rfl, s6 _ _ hp5, BC.cl, BC.n4, ?_, ?_⟩⟩
    · exact Nat.lt_of_le_of_lt (Nat.le_trans (putF_len _ _ _) (Nat.succ_le_succ (Nat.le_trans (putF_len _ _ _) (Nat.succ_le_succ (putF_len _ _ _))))) (by decide)
    have hp6 := s6 _ _ hp5
    have b7 : But p H6 (upd H6 p (.ins C dx (putF "_effects" (.ref ae) (putF "_first" (.str first) (putF "_sorts" (.ref at') (putF "_states" (.ref as) [])))))) := but_put
    generalize hH7 : upd H6 p (.ins C dx (putF "_effects" (.ref ae) (putF "_first" (.str first) (putF "_sorts" (.ref at') (putF "_states" (.ref as) []))))) = H7 at b7 ⊢
    have hp7 : H7 p = some (.ins C dx (putF "_effects" (.ref ae) (putF "_first" (.str first) (putF "_sorts" (.ref at') (putF "_states" (.ref as) []))))) := by rw [← hH7]; exact upd_same
    have b07 := (b05.trans (But.of s6)).trans b7
    have hre7 := b7.rowsI hp6 hre
    -- self._worths = told_worths(worths, states)
    have hx7 : (x = .non ∧ worths = []) ∨ ∃ c, x = .ref c ∧ WorthsAt H7 c worths := hx.imp id fun ⟨c, e, h⟩ => ⟨c, e, b07.worthsI hp h⟩
    refine ⟨_, rfl, _, rfl, x, ls, worths, states, rfl, b07.seqI hp hs, g5, hx7, fun aw H8 s8 haw hrw => ⟨_, rfl, p, C, dx, _, rfl, s8 _ _ hp7, BC.cl, BC.n5, ?_, ?_⟩⟩
    · exact Nat.lt_of_le_of_lt (Nat.le_trans (putF_len _ _ _) (Nat.succ_le_succ (Nat.le_trans (putF_len _ _ _) (Nat.succ_le_succ (Nat.le_trans (putF_len _ _ _) (Nat.succ_le_succ (putF_len _ _ _))))))) (by decide)
    have hp8 := s8 _ _ hp7
    have b9 : But p H8 (upd H8 p (.ins C dx (putF "_worths" (.ref aw) (putF "_effects" (.ref ae) (putF "_first" (.str first) (putF "_sorts" (.ref at') (putF "_states" (.ref as) []))))))) := but_put
    generalize hH9 : upd H8 p (.ins C dx (putF "_worths" (.ref aw) (putF "_effects" (.ref ae) (putF "_first" (.str first) (putF "_sorts" (.ref at') (putF "_states" (.ref as) [])))))) = H9 at b9 ⊢
    have hp9 : H9 p = some (.ins C dx (putF "_worths" (.ref aw) (putF "_effects" (.ref ae) (putF "_first" (.str first) (putF "_sorts" (.ref at') (putF "_states" (.ref as) [])))))) := by rw [← hH9]; exact upd_same
    have b09 := (b07.trans (But.of s8)).trans b9
    -- self._traits
    refine ⟨_, rfl, ls, states, rfl, b09.seqI hp hs, ?_, fun ys1 q1 pm1 so1 hq1 => ?_⟩
    · exact Nat.lt_of_le_of_lt g1.2.1 (by decide)
    have s10 := same_new (o := .lst (ys1.map V.str)) hq1
    refine ⟨_, rfl, lt, sorts, rfl, s10.seq (b09.seqI hp ht), ?_, fun ys2 q2 pm2 so2 hq2 => ?_⟩
    · exact Nat.lt_of_le_of_lt g2.2.1 (by decide)
    have s11 := s10.trans (same_new (o := .lst (ys2.map V.str)) hq2)
    have hp11 := s11 _ _ hp9
    have l5 : (putF "_worths" (.ref aw) (putF "_effects" (.ref ae) (putF "_first" (.str first) (putF "_sorts" (.ref at') (putF "_states" (.ref as) []))))).length ≤ 5 :=
      Nat.le_trans (putF_len _ _ _) (Nat.succ_le_succ (Nat.le_trans (putF_len _ _ _) (Nat.succ_le_succ (Nat.le_trans (putF_len _ _ _) (Nat.succ_le_succ (Nat.le_trans (putF_len _ _ _) (Nat.succ_le_succ (putF_len _ _ _))))))))
    refine ⟨_, rfl, _, rfl, p, C, dx, _, .ref ae, rfl, hp11, BC.cl, BC.n4, ?_, _, rfl, p, C, dx, _, .ref aw, rfl, hp11, BC.cl, BC.n5, ?_, by show 5 ≤ sizeLine; decide, fun tr htr => ?_⟩
    · rw [lookup_putF, if_neg (by decide +kernel), lookup_putF, if_pos rfl]
    · rw [lookup_putF, if_pos rfl]
    have s12 := s11.trans (same_new (o := .tup [.ref q1, .ref q2, .str first, .ref ae, .ref aw]) htr)
    have hp12 := s12 _ _ hp9
    refine ⟨_, rfl, p, C, dx, _, rfl, hp12, BC.cl, BC.n6, Nat.lt_of_le_of_lt l5 (by decide), ?_⟩
    refine k _ (fun b o n e => ?_) ⟨dx, as, at', ae, aw, tr, upd_same, ?_, ?_, ?_, ?_⟩
    · exact ((b09.trans (But.of s12)).trans but_put) b o n e
    · have := (((((b4.trans b5).trans (But.of s6)).trans b7).trans (But.of s8)).trans b9).trans (But.of s12) |>.trans (but_put (d := p) (C := C) (dx := dx) (fs := putF "_traits" (.ref tr) (putF "_worths" (.ref aw) (putF "_effects" (.ref ae) (putF "_first" (.str first) (putF "_sorts" (.ref at') (putF "_states" (.ref as) [])))))))
      exact this _ _ (ne_of has3 hp3 (fun z => nomatch z)) has3
    · have := ((((b5.trans (But.of s6)).trans b7).trans (But.of s8)).trans b9).trans (But.of s12) |>.trans (but_put (d := p) (C := C) (dx := dx) (fs := putF "_traits" (.ref tr) (putF "_worths" (.ref aw) (putF "_effects" (.ref ae) (putF "_first" (.str first) (putF "_sorts" (.ref at') (putF "_states" (.ref as) [])))))))
      exact this _ _ (ne_of hat4 hp4 (fun z => nomatch z)) hat4
    · have := ((But.of (d := p) s8).trans b9).trans (But.of s12) |>.trans (but_put (d := p) (C := C) (dx := dx) (fs := putF "_traits" (.ref tr) (putF "_worths" (.ref aw) (putF "_effects" (.ref ae) (putF "_first" (.str first) (putF "_sorts" (.ref at') (putF "_states" (.ref as) [])))))))
      exact this.rowsI hp7 hre7
    · have := (b9.trans (But.of s12)).trans (but_put (d := p) (C := C) (dx := dx) (fs := putF "_traits" (.ref tr) (putF "_worths" (.ref aw) (putF "_effects" (.ref ae) (putF "_first" (.str first) (putF "_sorts" (.ref at') (putF "_states" (.ref as) [])))))))
      exact this.worthsI hp8 hrw
end
end HN

namespace HN
open PySem L2
/-! ### what a book tells -/
def spBSorts (C : Addr) : Sp := fun vs H Q _ => ∃ (p : Addr) (B : Bk), vs = [.ref p] ∧ BookAt C H p B ∧ ∀ l, H l = none → Q (.ref l) (upd H l (.lst (B.sorts.map V.str)))
def spBFirst (C : Addr) : Sp := fun vs H Q _ => ∃ (p : Addr) (B : Bk), vs = [.ref p] ∧ BookAt C H p B ∧ Q (.str B.first) H
def spBWorth (C : Addr) : Sp := fun vs H Q _ => ∃ (p : Addr) (z : Str) (B : Bk), vs = [.ref p, .str z] ∧ BookAt C H p B ∧ z ∈ B.states ∧ Q (.int (wOf B.worths z)) H
def effOf (rows : List (K3 × Eff)) (k : K3) : Eff := (effAt rows k).getD (idle k.1)
def spBEffect (C : Addr) : Sp := fun vs H Q _ => ∃ (p : Addr) (k : K3) (B : Bk), vs = [.ref p, .str k.1, .str k.2.1, .str k.2.2] ∧ BookAt C H p B ∧ GoodKey B.states B.sorts k ∧ ∀ a H', Same H H' → H' a = some (.tup (effV (effOf B.rows k))) → Q (.ref a) H'
section
variable {P : Program} {w : World} {K : PySem.W.Frag} {mg : Str → Option Value} {base : Heap}
theorem scBSorts : FnScope ["self"] ["self"] (defScope sBSorts) := ⟨rfl, rfl, rfl, by decide +kernel, rfl, by decide +kernel, by decide +kernel⟩
theorem ok_bSorts {f C : Addr} {fd : FuncData} (F : Fun K "sorts" "Book.sorts" sBSorts f fd) (T : Txt K mg) (BC : BookC K mg C) : FnOk P w K mg base CX0 1 f fd ["self"] (spBSorts C) := by
  refine F.ok scBSorts (fun vs H Q E h => ?_) (fun cdv A outer s H vs Q E hr h => ?_)
  · obtain ⟨p, B, rfl, _⟩ := h
    rfl
  · obtain ⟨p, B, rfl, ⟨dx, ls, lt, e, w', tr, hp, h1, h2, h3, h4⟩, k⟩ := h
    refine ⟨_, pss_one (ps_ret (pe_callTy call_list_of (by rfl) T.list (by decide +kernel) (pa_cons (pe_fld (pv 0) rfl) pa_nil))), ?_⟩
    exact ⟨_, rfl, p, C, dx, _, .ref lt, rfl, hp, BC.cl, BC.n2, bkF_sorts .., lt, _, rfl, .inl (SqL.of h2), fun l hl => k l hl⟩
theorem scBFirst : FnScope ["self"] ["self"] (defScope sBFirst) := ⟨rfl, rfl, rfl, by decide +kernel, rfl, by decide +kernel, by decide +kernel⟩
theorem ok_bFirst {f C : Addr} {fd : FuncData} (F : Fun K "first" "Book.first" sBFirst f fd) (BC : BookC K mg C) : FnOk P w K mg base CX0 1 f fd ["self"] (spBFirst C) := by
  refine F.ok scBFirst (fun vs H Q E h => ?_) (fun cdv A outer s H vs Q E hr h => ?_)
  · obtain ⟨p, B, rfl, _⟩ := h
    rfl
  · obtain ⟨p, B, rfl, ⟨dx, ls, lt, e, w', tr, hp, h1, h2, h3, h4⟩, k⟩ := h
    refine ⟨_, pss_one (ps_ret (pe_fld (pv 0) rfl)), ?_⟩
    exact ⟨_, rfl, p, C, dx, _, .str B.first, rfl, hp, BC.cl, BC.n3, bkF_first .., k⟩
theorem scBWorth : FnScope ["self", "state"] ["self", "state"] (defScope sBWorth) := ⟨rfl, rfl, rfl, by decide +kernel, rfl, by decide +kernel, by decide +kernel⟩
theorem ok_bWorth {f C : Addr} {fd : FuncData} (F : Fun K "worth" "Book.worth" sBWorth f fd) (BC : BookC K mg C) : FnOk P w K mg base CX0 1 f fd ["self", "state"] (spBWorth C) := by
  refine F.ok scBWorth (fun vs H Q E h => ?_) (fun cdv A outer s H vs Q E hr h => ?_)
  · obtain ⟨p, z, B, rfl, _⟩ := h
    rfl
  · obtain ⟨p, z, B, rfl, ⟨dx, ls, lt, e, w', tr, hp, h1, h2, h3, h4⟩, hz, k⟩ := h
    have hu := hu_of hr
    refine ⟨_, pss_cons (ps_if (pt_cmpR op_notIn_seq (pv 1) (pe_fld (pv 0) rfl) (by rfl)) (pss_one ps_never) pss_nil)
      (pss_one (ps_ret (pe_dget2 hu (pe_fld (pv 0) rfl) (pv 1) pe_int ⟨rfl, rfl, rfl, rfl⟩))), ?_⟩
    have hin : inV (V.str z) (B.states.map V.str) = true := (inV_str _ _).trans (decide_eq_true hz)
    refine ⟨_, rfl, _, rfl, p, C, dx, _, .ref ls, rfl, hp, BC.cl, BC.n1, bkF_states .., ls, _, rfl, .inl (SqL.of h1), rfl, flat_strs _, _, rfl, ?_⟩
    rw [if_pos rfl]
    refine iteEF (by rw [hin]; rfl) ?_
    refine ⟨_, rfl, p, C, dx, _, .ref w', rfl, hp, BC.cl, BC.n5, bkF_worths .., w', rfl, .inl ⟨_, .inl h4⟩, _, rfl, _, DGet.k (k := Sum.inr z) h4, ?_⟩
    rw [valV_wK]
    unfold wOf at k
    cases hw : wAt B.worths z with
    | none => rw [hw] at k; exact k
    | some n => rw [hw] at k; exact k
theorem scBEffect : FnScope ["self", "state", "sort", "age", "key"] ["self", "state", "sort", "age"] (defScope sBEffect) := ⟨rfl, rfl, rfl, by decide +kernel, rfl, by decide +kernel, by decide +kernel⟩
theorem ok_bEffect {f C fK fI : Addr} {fd fdK fdI : FuncData} (F : Fun K "effect" "Book.effect" sBEffect f fd) (BC : BookC K mg C) (DK : Def K mg "is_key" sIsKey ["thing", "states", "sorts"] fK fdK) (GK : FnOk P w K mg base CX0 2 fK fdK ["thing", "states", "sorts"] (spIsKey K))
    (DI : Def K mg "idle_effect" sIdle ["state"] fI fdI) (GI : FnOk P w K mg base CX0 1 fI fdI ["state"] spIdle) : FnOk P w K mg base CX0 3 f fd ["self", "state", "sort", "age"] (spBEffect C) := by
  refine F.ok scBEffect (fun vs H Q E h => ?_) (fun cdv A outer s H vs Q E hr h => ?_)
  · obtain ⟨p, kk, B, rfl, _⟩ := h
    rfl
  · obtain ⟨p, kk, B, rfl, hB, hg, k⟩ := h
    have hu := hu_of hr
    refine ⟨_, pss_cons (ps_set (i := 4) scBEffect.nd rfl (Or.inl rfl) (pe_tup (pa_cons (pv 1) (pa_cons (pv 2) (pa_cons (pv 3) pa_nil)))))
      (pss_cons (ps_if (pt_not (pt_val (pe_call GK hr (by rfl) DK.m DK.F.kp DK.b .nil pass0 (pa_cons (pv 4) (pa_cons (pe_fld (pv 0) rfl) (pa_cons (pe_fld (pv 0) rfl) pa_nil)))))) (pss_one ps_never) pss_nil)
      (pss_one (ps_ret (pe_dget2 hu (pe_fld (pv 0) rfl) (pv 4) (pe_call GI (hr.mono (by decide)) (by rfl) DI.m DI.F.kp DI.b .nil pass0 (pa_cons (pv 1) pa_nil)) ⟨rfl, rfl, rfl, rfl⟩)))), ?_⟩
    refine ⟨_, rfl, _, rfl, _, rfl, by show 3 ≤ sizeLine; decide, fun b hb => ?_⟩
    have s1 := same_new (o := .tup (v3 kk)) hb
    obtain ⟨dx, ls, lt, e, w', tr, hp, h1, h2, h3, h4⟩ := hB.same s1
    refine ⟨_, rfl, _, rfl, p, C, dx, _, .ref ls, rfl, hp, BC.cl, BC.n1, bkF_states .., _, rfl, p, C, dx, _, .ref lt, rfl, hp, BC.cl, BC.n2, bkF_sorts .., b, ls, lt, kk, B.states, B.sorts, rfl, upd_same, SqL.of h1, SqL.of h2, hg, fun H2 s2 => ⟨_, rfl, ?_⟩⟩
    have hb2 := s2 _ _ (upd_same (H := H) (a := b) (o := .tup (v3 kk)))
    obtain ⟨kvs, hd, rk⟩ := h3.same s2
    refine ⟨_, rfl, p, C, dx, _, .ref e, rfl, s2 _ _ hp, BC.cl, BC.n4, bkF_effects .., e, rfl, .inr ⟨_, .inl hd⟩, _, rfl, _, rfl, kk.1, rfl, fun q hq => ?_⟩
    have s3 := same_new (o := .tup (effV (idle kk.1))) hq
    refine ⟨_, DGet.t (k := k3 kk) (s3 _ _ hd) (show _ = some (HO.tup ((k3 kk).map kV)) from s3 _ _ hb2), ?_⟩
    have s03 := (s1.trans s2).trans s3
    unfold effOf at k
    have hv := RowsK.val (k := kk) rk
    cases he : effAt B.rows kk with
    | none =>
      rw [he] at k
      rw [hv.2 he]
      exact k q _ s03 upd_same
    | some ef =>
      rw [he] at k
      obtain ⟨a, va, ha⟩ := hv.1 ef he
      rw [va]
      exact k a _ s03 (s3 _ _ ha)
end
end HN

/-! U0: a heap of pure data (a view) and of owned objects; what is wanted, over these alone -/
namespace PW
open PySem PySem.Spec PyProof.Rows L2
/-! ### data that do not change -/
mutual
inductive Dq (K : PySem.W.Frag) (W : Hp) : L2.V → PyData → Prop
  | non : Dq K W .non .none
  | bl (b : Bool) : Dq K W (.bl b) (.bool b)
  | int (i : Int) : Dq K W (.int i) (.int i)
  | str (x : Str) : Dq K W (.str x) (.str x)
  | lst {a : Addr} {xs : List L2.V} {ds : List PyData} : W a = some (.lst xs) → DqL K W xs ds → Dq K W (.ref a) (.list ds)
  | tup {a : Addr} {xs : List L2.V} {ds : List PyData} : SqT K W a xs → DqL K W xs ds → Dq K W (.ref a) (.tuple ds)
inductive DqL (K : PySem.W.Frag) (W : Hp) : List L2.V → List PyData → Prop
  | nil : DqL K W [] []
  | cons {v : L2.V} {vs : List L2.V} {d : PyData} {ds : List PyData} : Dq K W v d → DqL K W vs ds → DqL K W (v :: vs) (d :: ds)
end
section
variable {K : PySem.W.Frag} {V V' H : Hp}
theorem same_seqT {a : Addr} {xs : List L2.V} (e : Same V V') (h : SqT K V a xs) : SqT K V' a xs := by
  rcases h with (h | ⟨o, h⟩) | h
  · exact .inl (.inl (e _ _ h))
  · exact .inl (.inr ⟨o, e _ _ h⟩)
  · exact .inr h
mutual
theorem Dq.mono (s : Same V V') : ∀ {d : PyData} {v : L2.V}, Dq K V v d → Dq K V' v d
  | .none, _, h => by cases h; exact .non
  | .bool b, _, h => by cases h; exact .bl b
  | .int i, _, h => by cases h; exact .int i
  | .str x, _, h => by cases h; exact .str x
  | .list ds, _, h => by
    cases h with
    | lst h1 h2 => exact .lst (s _ _ h1) (DqL.mono s h2)
  | .tuple ds, _, h => by
    cases h with
    | tup h1 h2 => exact .tup (same_seqT s h1) (DqL.mono s h2)
  | .dict _, _, h => by cases h
theorem DqL.mono (s : Same V V') : ∀ {ds : List PyData} {vs : List L2.V}, DqL K V vs ds → DqL K V' vs ds
  | [], _, h => by cases h; exact .nil
  | d :: ds, _, h => by
    cases h with
    | cons h1 h2 => exact .cons (Dq.mono s h1) (DqL.mono s h2)
end
mutual
theorem Dq.dp : ∀ {d : PyData} {v : L2.V}, Dq K V v d → Dp K V v d
  | .none, _, h => by cases h; exact .non
  | .bool b, _, h => by cases h; exact .bl b
  | .int i, _, h => by cases h; exact .int i
  | .str x, _, h => by cases h; exact .str x
  | .list ds, _, h => by
    cases h with
    | lst h1 h2 => exact .lst (.inl (.inl h1)) (DqL.dp h2)
  | .tuple ds, _, h => by
    cases h with
    | tup h1 h2 => exact .tup h1 (DqL.dp h2)
  | .dict _, _, h => by cases h
theorem DqL.dp : ∀ {ds : List PyData} {vs : List L2.V}, DqL K V vs ds → DpAll K V vs ds
  | [], _, h => by cases h; exact .nil
  | d :: ds, _, h => by
    cases h with
    | cons h1 h2 => exact .cons (Dq.dp h1) (DqL.dp h2)
end
theorem DqL.length : ∀ {ds : List PyData} {vs : List L2.V}, DqL K V vs ds → vs.length = ds.length
  | [], _, h => by cases h; rfl
  | d :: ds, _, h => by
    cases h with
    | cons h1 h2 => rw [List.length_cons, List.length_cons, DqL.length h2]
theorem DqL.get : ∀ {ds : List PyData} {vs : List L2.V} {i : Nat} {d : PyData}, DqL K V vs ds → ds[i]? = some d → ∃ v, vs[i]? = some v ∧ Dq K V v d
  | [], _, i, d, _, e => by simp at e
  | x :: ds, _, 0, d, h, e => by
    cases h with
    | cons h1 h2 => simp at e; subst e; exact ⟨_, rfl, h1⟩
  | x :: ds, _, i + 1, d, h, e => by
    cases h with
    | cons h1 h2 =>
      obtain ⟨v, e1, e2⟩ := DqL.get (i := i) h2 (by simpa using e)
      exact ⟨v, by simpa using e1, e2⟩
theorem DqL.get' {ds : List PyData} {vs : List L2.V} {i : Nat} {v : L2.V} (h : DqL K V vs ds) (e : vs[i]? = some v) : ∃ d, ds[i]? = some d ∧ Dq K V v d := by
  have hi : i < ds.length := by
    rw [← h.length]
    exact (List.getElem?_eq_some_iff.mp e).1
  obtain ⟨w, e1, e2⟩ := h.get (List.getElem?_eq_getElem hi)
  rw [e] at e1
  cases e1
  exact ⟨_, List.getElem?_eq_getElem hi, e2⟩
theorem DqL.append : ∀ {ds es : List PyData} {vs us : List L2.V}, DqL K V vs ds → DqL K V us es → DqL K V (vs ++ us) (ds ++ es)
  | [], _, _, _, h, g => by cases h; exact g
  | d :: ds, _, _, _, h, g => by
    cases h with
    | cons h1 h2 => exact .cons h1 (DqL.append h2 g)
theorem DqL.one {v : L2.V} {d : PyData} (h : Dq K V v d) : DqL K V [v] [d] := .cons h .nil
theorem DqL.drop : ∀ {ds : List PyData} {vs : List L2.V} (n : Nat), DqL K V vs ds → DqL K V (vs.drop n) (ds.drop n)
  | _, _, 0, h => h
  | [], _, n + 1, h => by cases h; exact .nil
  | d :: ds, _, n + 1, h => by
    cases h with
    | cons h1 h2 => exact DqL.drop n h2
theorem DqL.take : ∀ {ds : List PyData} {vs : List L2.V} (n : Nat), DqL K V vs ds → DqL K V (vs.take n) (ds.take n)
  | _, _, 0, h => .nil
  | [], _, n + 1, h => by cases h; exact .nil
  | d :: ds, _, n + 1, h => by
    cases h with
    | cons h1 h2 => exact .cons h1 (DqL.take n h2)
theorem DqL.set : ∀ {ds : List PyData} {vs : List L2.V} {v : L2.V} {d : PyData} (n : Nat), DqL K V vs ds → Dq K V v d → DqL K V (vs.set n v) (ds.set n d)
  | [], _, _, _, n, h, _ => by cases h; exact .nil
  | d :: ds, _, _, _, 0, h, g => by
    cases h with
    | cons h1 h2 => exact .cons g h2
  | d :: ds, _, _, _, n + 1, h, g => by
    cases h with
    | cons h1 h2 => exact .cons h1 (DqL.set n h2 g)
theorem DqL.ints : ∀ ns : List Int, DqL K V (ns.map L2.V.int) (ns.map PyData.int)
  | [] => .nil
  | n :: ns => .cons (.int n) (DqL.ints ns)
theorem DqL.strs : ∀ ns : List Str, DqL K V (ns.map L2.V.str) (ns.map PyData.str)
  | [] => .nil
  | n :: ns => .cons (.str n) (DqL.strs ns)
end

/-! ### values of slots, owned objects -/
/-- a value: pure data; the i-th owned object; a thing that a word tells (it does not change) -/
inductive DV where
  | d (x : PyData)
  | o (i : Nat)
  | x (ψ : Hp → L2.V → Prop)
inductive Ob where
  | dead
  | dr
  | lst (ds : List PyData)
  | dT (kvs : List (List Key × PyData))
  | dK (kvs : List (Key × PyData))
  | ext (φ : Hp → Hp → Addr → List Addr → Prop)
/-- the draws' list -/
def Draws (H : Hp) (d : Addr) : Prop := ∃ a b c : Int, H d = some (.lst [.int a, .int b, .int c])
def OwnAt (K : PySem.W.Frag) (V H : Hp) (a : Addr) (fs : List Addr) : Ob → Prop
  | .dead => fs = []
  | .dr => fs = [a] ∧ Draws H a
  | .lst ds => fs = [a] ∧ ∃ xs, H a = some (.lst xs) ∧ DqL K V xs ds
  | .dT kvs => fs = [a] ∧ ∃ ws, H a = some (.dT ws) ∧ ws.map (·.1) = kvs.map (·.1) ∧ DqL K V (ws.map (·.2)) (kvs.map (·.2))
  | .dK kvs => fs = [a] ∧ ∃ ws, H a = some (.dK ws) ∧ ws.map (·.1) = kvs.map (·.1) ∧ DqL K V (ws.map (·.2)) (kvs.map (·.2))
  | .ext φ => (∀ b ∈ fs, ∀ xs, H b ≠ some (.tup xs)) ∧ ∀ V' H', Same V V' → Same V' H' → (∀ b ∈ fs, H' b = H b) → φ V' H' a fs
abbrev Cell := Addr × List Addr × Ob
abbrev obs (S : List Cell) : List Ob := S.map (·.2.2)
/-- the entry of a def: its heap, the objects that it was handed, the view of it -/
structure Fr where
  H0 : Hp
  Fs : List (List Addr)
  V0 : Hp
abbrev Fr.F0 (R : Fr) : List Addr := R.Fs.flatten
def Fr.foot (R : Fr) (i : Nat) (b : Addr) : Prop := (∃ fs, R.Fs[i]? = some fs ∧ b ∈ fs) ∨ R.H0 b = none
theorem Fr.foot_or {R : Fr} {i : Nat} {b : Addr} (h : R.foot i b) : b ∈ R.F0 ∨ R.H0 b = none := by
  rcases h with ⟨fs, e, hb⟩ | h
  · exact .inl (List.mem_flatten.mpr ⟨fs, List.mem_of_getElem? e, hb⟩)
  · exact .inr h
structure Rep (K : PySem.W.Frag) (R : Fr) (S : List Cell) (V H : Hp) : Prop where
  v0 : Same R.V0 V
  vh : Same V H
  keep : ∀ b o, b ∉ R.F0 → R.H0 b = some o → H b = some o
  f0 : ∀ b ∈ R.F0, H b ≠ none
  vnew : ∀ b, V b ≠ none → R.V0 b ≠ none ∨ R.H0 b = none ∨ ∃ xs, V b = some (.tup xs)
  own : ∀ (i : Nat) (c : Cell), S[i]? = some c → OwnAt K V H c.1 c.2.1 c.2.2
  foot : ∀ (i : Nat) (c : Cell), S[i]? = some c → ∀ b ∈ c.2.1, V b = none ∧ H b ≠ none ∧ R.foot i b
  sep : ∀ (i j : Nat) (c c' : Cell), i ≠ j → S[i]? = some c → S[j]? = some c' → ∀ b ∈ c.2.1, b ∉ c'.2.1
structure Ext (S : List Cell) (V : Hp) (S' : List Cell) (V' : Hp) : Prop where
  v : Same V V'
  s : ∀ (i : Nat) (c : Cell), S[i]? = some c → ∃ c', S'[i]? = some c' ∧ c'.1 = c.1
def DVat (K : PySem.W.Frag) (S : List Cell) (V : Hp) (v : L2.V) : DV → Prop
  | .d x => Dq K V v x
  | .o i => ∃ c : Cell, S[i]? = some c ∧ v = .ref c.1
  | .x ψ => ∀ V', Same V V' → ψ V' v
abbrev DVs (K : PySem.W.Frag) (S : List Cell) (V : Hp) : List L2.V → List DV → Prop := Paired (DVat K S V)
abbrev PEnv := List (Option DV)
structure Slots (K : PySem.W.Frag) (S : List Cell) (V : Hp) (σ : L2.St) (Γ : PEnv) : Prop where
  len : σ.length = Γ.length
  at_ : ∀ (i : Nat) (dv : DV), Γ[i]? = some (some dv) → ∃ v, σ[i]? = some (some v) ∧ DVat K S V v dv
section
variable {K : PySem.W.Frag} {R : Fr} {S S' S2 : List Cell} {V V' V2 H H' : Hp}
theorem Ext.refl : Ext S V S V := ⟨Same.refl _, fun i c h => ⟨c, h, rfl⟩⟩
theorem Ext.trans (a : Ext S V S' V') (b : Ext S' V' S2 V2) : Ext S V S2 V2 := ⟨a.v.trans b.v, fun i c h => by
  obtain ⟨c', h', e⟩ := a.s i c h
  obtain ⟨c2, h2, e2⟩ := b.s i c' h'
  exact ⟨c2, h2, e2.trans e⟩⟩
theorem DVat.mono (e : Ext S V S' V') : ∀ {dv : DV} {v : L2.V}, DVat K S V v dv → DVat K S' V' v dv
  | .d x, v, h => Dq.mono e.v h
  | .o i, v, ⟨c, h, hv⟩ => by
    obtain ⟨c', h', e'⟩ := e.s i c h
    exact ⟨c', h', by rw [e']; exact hv⟩
  | .x ψ, v, h => fun V2 s => h V2 (e.v.trans s)
theorem DVs.mono (e : Ext S V S' V') {dvs : List DV} {vs : List L2.V} (h : DVs K S V vs dvs) : DVs K S' V' vs dvs := Paired.mapP h fun _ _ x => x.mono e
theorem Slots.mono (e : Ext S V S' V') {σ : L2.St} {Γ : PEnv} (h : Slots K S V σ Γ) : Slots K S' V' σ Γ := ⟨h.len, fun i dv x => by
  obtain ⟨v, h1, h2⟩ := h.at_ i dv x
  exact ⟨v, h1, h2.mono e⟩⟩
theorem Slots.set {σ : L2.St} {Γ : PEnv} (h : Slots K S V σ Γ) (i : Nat) {v : L2.V} {dv : DV} (x : DVat K S V v dv) : Slots K S V (σ.set i (some v)) (Γ.set i (some dv)) := by
  refine ⟨by rw [List.length_set, List.length_set]; exact h.len, fun j dw e => ?_⟩
  rw [List.getElem?_set] at e ⊢
  by_cases hj : i = j
  · subst hj
    rw [if_pos rfl] at e ⊢
    by_cases hl : i < Γ.length
    · rw [if_pos hl] at e
      rw [if_pos (by rw [h.len]; exact hl)]
      cases e
      exact ⟨v, rfl, x⟩
    · rw [if_neg hl] at e
      cases e
  · rw [if_neg hj] at e ⊢
    exact h.at_ j dw e
def wipeG (Γ : PEnv) : List Nat → PEnv
  | [] => Γ
  | v :: vs => (wipeG Γ vs).set v none
theorem Slots.wipe {σ : L2.St} {Γ : PEnv} (h : Slots K S V σ Γ) : ∀ vs : List Nat, Slots K S V (L2.wipe σ vs) (wipeG Γ vs)
  | [] => h
  | v :: vs => by
    have ih := Slots.wipe h vs
    refine ⟨by unfold L2.wipe wipeG; rw [List.length_set, List.length_set]; exact ih.len, fun j dw e => ?_⟩
    unfold wipeG at e
    unfold L2.wipe
    rw [List.getElem?_set] at e ⊢
    by_cases hj : v = j
    · subst hj
      rw [if_pos rfl] at e
      by_cases hl : v < (wipeG Γ vs).length
      · rw [if_pos hl] at e; cases e
      · rw [if_neg hl] at e; cases e
    · rw [if_neg hj] at e ⊢
      exact ih.at_ j dw e
theorem OwnAt.stay {a : Addr} {fs : List Addr} : ∀ {o : Ob}, OwnAt K V H a fs o → Same V V' → Same V' H' → (∀ b ∈ fs, H' b = H b) → OwnAt K V' H' a fs o
  | .dead, h, _, _, _ => h
  | .dr, ⟨h, x, y, z, e⟩, _, _, k => ⟨h, x, y, z, by rw [k a (by rw [h]; exact List.mem_singleton_self a)]; exact e⟩
  | .lst ds, ⟨h, xs, e, d⟩, s, _, k => ⟨h, xs, by rw [k a (by rw [h]; exact List.mem_singleton_self a)]; exact e, d.mono s⟩
  | .dT ds, ⟨h, xs, e, m, d⟩, s, _, k => ⟨h, xs, by rw [k a (by rw [h]; exact List.mem_singleton_self a)]; exact e, m, d.mono s⟩
  | .dK ds, ⟨h, xs, e, m, d⟩, s, _, k => ⟨h, xs, by rw [k a (by rw [h]; exact List.mem_singleton_self a)]; exact e, m, d.mono s⟩
  | .ext φ, h, s, s', k => ⟨fun b hb xs e => h.1 b hb xs (by rw [← k b hb]; exact e), fun V2 H2 t t' k' => h.2 V2 H2 (s.trans t) t' fun b hb => (k' b hb).trans (k b hb)⟩
/-- no tuple is owned -/
theorem OwnAt.notup {a : Addr} {fs : List Addr} : ∀ {o : Ob}, OwnAt K V H a fs o → ∀ b ∈ fs, ∀ xs, H b ≠ some (.tup xs)
  | .dead, h, b, hb, xs, e => by rw [show fs = [] from h] at hb; cases hb
  | .dr, ⟨h, x, y, z, e'⟩, b, hb, xs, e => by rw [h] at hb; rw [List.mem_singleton.mp hb, e'] at e; cases e
  | .lst ds, ⟨h, ys, e', _⟩, b, hb, xs, e => by rw [h] at hb; rw [List.mem_singleton.mp hb, e'] at e; cases e
  | .dT ds, ⟨h, ys, e', _⟩, b, hb, xs, e => by rw [h] at hb; rw [List.mem_singleton.mp hb, e'] at e; cases e
  | .dK ds, ⟨h, ys, e', _⟩, b, hb, xs, e => by rw [h] at hb; rw [List.mem_singleton.mp hb, e'] at e; cases e
  | .ext φ, h, b, hb, xs, e => h.1 b hb xs e
/-- a tracked address: untracked ones were so at the entry -/
theorem Rep.none0 (r : Rep K R S V H) {b : Addr} (h : H b = none) : R.H0 b = none := by
  cases q : R.H0 b with
  | none => rfl
  | some o =>
    by_cases hb : b ∈ R.F0
    · exact (r.f0 b hb h).elim
    · rw [r.keep b o hb q] at h; cases h
theorem Rep.vnone (r : Rep K R S V H) {b : Addr} (h : H b = none) : V b = none := Same.free r.vh h
/-- a new thing that will not change -/
theorem Rep.new (r : Rep K R S V H) {p : Addr} {o : HO} (hp : H p = none) : Rep K R S (upd V p o) (upd H p o) ∧ Ext S V S (upd V p o) := by
  have hv : V p = none := r.vnone hp
  have sv : Same V (upd V p o) := fun b u e => by rw [upd_ne (ne_of_none e hv)]; exact e
  have vh : Same (upd V p o) (upd H p o) := fun b u e => by
    by_cases hb : b = p
    · subst hb; rw [upd_same] at e ⊢; exact e
    · rw [upd_ne hb] at e ⊢; exact r.vh b u e
  refine ⟨⟨r.v0.trans sv, vh, fun b u hb e => ?_, fun b hb => ?_, fun b e => ?_, fun i c e => ?_, fun i c e b hb => ?_, r.sep⟩, ⟨sv, fun i c h => ⟨c, h, rfl⟩⟩⟩
  · have := r.keep b u hb e
    rw [upd_ne (ne_of_none this hp)]; exact this
  · have := r.f0 b hb
    rw [upd_ne (fun z => this (by rw [z]; exact hp))]; exact this
  · by_cases hb : b = p
    · subst hb; exact .inr (.inl (r.none0 hp))
    · rw [upd_ne hb] at e ⊢; exact r.vnew b e
  · refine (r.own i c e).stay sv vh fun b hb => ?_
    have := (r.foot i c e b hb).2.1
    rw [upd_ne (fun z => this (by rw [z]; exact hp))]
  · obtain ⟨h1, h2, h3⟩ := r.foot i c e b hb
    have n : b ≠ p := fun z => h2 (by rw [z]; exact hp)
    rw [upd_ne n, upd_ne n]
    exact ⟨h1, h2, h3⟩
/-- a new owned object at one address -/
theorem Rep.newOwn (r : Rep K R S V H) {p : Addr} {o : HO} {ob : Ob} (hp : H p = none) (ho : OwnAt K V (upd H p o) p [p] ob) : Rep K R (S ++ [(p, [p], ob)]) V (upd H p o) ∧ Ext S V (S ++ [(p, [p], ob)]) V := by
  have hv : V p = none := r.vnone hp
  have vh : Same V (upd H p o) := fun b u e => by rw [upd_ne (ne_of_none e hv)]; exact r.vh b u e
  have get : ∀ {i : Nat} {c : Cell}, (S ++ [(p, [p], ob)])[i]? = some c → S[i]? = some c ∨ (i = S.length ∧ c = (p, [p], ob)) := fun {i c} e => by
    by_cases hi : i < S.length
    · rw [List.getElem?_append_left hi] at e; exact .inl e
    · rw [List.getElem?_append_right (Nat.le_of_not_lt hi)] at e
      have h1 : i - S.length < 1 := by
        have := (List.getElem?_eq_some_iff.mp e).1
        simpa using this
      have h2 : i = S.length := by omega
      subst h2
      simp at e
      exact .inr ⟨rfl, e.symm⟩
  have keepH : ∀ b, H b ≠ none → upd H p o b = H b := fun b hb => upd_ne fun z => hb (by rw [z]; exact hp)
  refine ⟨⟨r.v0, vh, fun b u hb e => ?_, fun b hb => ?_, r.vnew, fun i c e => ?_, fun i c e b hb => ?_, fun i j c c' hij e e' b hb hb' => ?_⟩, ⟨Same.refl _, fun i c h => ⟨c, by rw [List.getElem?_append_left (List.getElem?_eq_some_iff.mp h).1]; exact h, rfl⟩⟩⟩
  · have := r.keep b u hb e
    rw [keepH b (by rw [this]; simp)]; exact this
  · rw [keepH b (r.f0 b hb)]; exact r.f0 b hb
  · rcases get e with e | ⟨_, rfl⟩
    · exact (r.own i c e).stay (Same.refl _) vh fun b hb => keepH b (r.foot i c e b hb).2.1
    · exact ho
  · rcases get e with e | ⟨_, rfl⟩
    · obtain ⟨h1, h2, h3⟩ := r.foot i c e b hb
      exact ⟨h1, by rw [keepH b h2]; exact h2, h3⟩
    · have hb' : b = p := List.mem_singleton.mp hb
      subst hb'
      exact ⟨hv, by rw [upd_same]; simp, .inr (r.none0 hp)⟩
  · rcases get e with h | ⟨hi, rfl⟩
    · rcases get e' with h' | ⟨hj, rfl⟩
      · exact r.sep i j c c' hij h h' b hb hb'
      · have q : b = p := List.mem_singleton.mp hb'
        exact (r.foot i c h b hb).2.1 (by rw [q]; exact hp)
    · rcases get e' with h' | ⟨hj, rfl⟩
      · have q : b = p := List.mem_singleton.mp hb
        exact (r.foot j c' h' b hb').2.1 (by rw [q]; exact hp)
      · exact hij (hi.trans hj.symm)
/-- an owned object of one address is changed -/
theorem Rep.put (r : Rep K R S V H) {i : Nat} {a : Addr} {ob ob' : Ob} {o : HO} (hi : S[i]? = some (a, [a], ob)) (ho : OwnAt K V (upd H a o) a [a] ob') : Rep K R (S.set i (a, [a], ob')) V (upd H a o) ∧ Ext S V (S.set i (a, [a], ob')) V := by
  obtain ⟨va, ha, fa⟩ := r.foot i _ hi a (List.mem_singleton_self a)
  have vh : Same V (upd H a o) := fun b u e => by rw [upd_ne (ne_of_none e va)]; exact r.vh b u e
  have get : ∀ {j : Nat} {c : Cell}, (S.set i (a, [a], ob'))[j]? = some c → (j ≠ i ∧ S[j]? = some c) ∨ (j = i ∧ c = (a, [a], ob')) := fun {j c} e => by
    rw [List.getElem?_set] at e
    by_cases hj : i = j
    · subst hj
      rw [if_pos rfl, if_pos (List.getElem?_eq_some_iff.mp hi).1] at e
      cases e; exact .inr ⟨rfl, rfl⟩
    · rw [if_neg hj] at e; exact .inl ⟨fun z => hj z.symm, e⟩
  refine ⟨⟨r.v0, vh, fun b u hb e => ?_, fun b hb => ?_, r.vnew, fun j c e => ?_, fun j c e b hb => ?_, fun j k c c' hjk e e' b hb hb' => ?_⟩, ⟨Same.refl _, fun j c h => ?_⟩⟩
  · have n : b ≠ a := fun z => by
      subst z
      rcases Fr.foot_or fa with f | f
      · exact hb f
      · rw [f] at e; cases e
    rw [upd_ne n]; exact r.keep b u hb e
  · by_cases n : b = a
    · subst n; rw [upd_same]; simp
    · rw [upd_ne n]; exact r.f0 b hb
  · rcases get e with ⟨hj, e⟩ | ⟨_, rfl⟩
    · exact (r.own j c e).stay (Same.refl _) vh fun b hb => upd_ne fun z => r.sep i j _ c (fun q => hj q.symm) hi e a (List.mem_singleton_self a) (by rw [← z]; exact hb)
    · exact ho
  · rcases get e with ⟨hj, e⟩ | ⟨hji, rfl⟩
    · obtain ⟨h1, h2, h3⟩ := r.foot j c e b hb
      refine ⟨h1, ?_, h3⟩
      by_cases n : b = a
      · subst n; rw [upd_same]; simp
      · rw [upd_ne n]; exact h2
    · rw [hji]
      have hb' : b = a := List.mem_singleton.mp hb
      subst hb'
      exact ⟨va, by rw [upd_same]; simp, fa⟩
  · rcases get e with ⟨hj, h⟩ | ⟨hj, rfl⟩
    · rcases get e' with ⟨hk, h'⟩ | ⟨hk, rfl⟩
      · exact r.sep j k c c' hjk h h' b hb hb'
      · have z : b = a := List.mem_singleton.mp hb'
        exact r.sep i j _ c (fun q => hj q.symm) hi h a (List.mem_singleton_self a) (by rw [← z]; exact hb)
    · rcases get e' with ⟨hk, h'⟩ | ⟨hk, rfl⟩
      · have z : b = a := List.mem_singleton.mp hb
        exact r.sep i k _ c' (fun q => hk q.symm) hi h' a (List.mem_singleton_self a) (by rw [← z]; exact hb')
      · exact hjk (hj.trans hk.symm)
  · by_cases hj : i = j
    · subst hj
      rw [hi] at h; cases h
      exact ⟨(a, [a], ob'), by rw [List.getElem?_set, if_pos rfl, if_pos (List.getElem?_eq_some_iff.mp hi).1], rfl⟩
    · exact ⟨c, by rw [List.getElem?_set, if_neg hj]; exact h, rfl⟩
/-- an owned object of one address is owned no more: it is looked at, and stays -/
theorem Rep.freeze (r : Rep K R S V H) {i : Nat} {a : Addr} {ob : Ob} {o : HO} (hi : S[i]? = some (a, [a], ob)) (hh : H a = some o) (h0 : R.H0 a = none) : Rep K R (S.set i (a, [], .dead)) (upd V a o) H ∧ Ext S V (S.set i (a, [], .dead)) (upd V a o) := by
  obtain ⟨va, ha, fa⟩ := r.foot i _ hi a (List.mem_singleton_self a)
  have sv : Same V (upd V a o) := fun b u e => by rw [upd_ne (ne_of_none e va)]; exact e
  have vh : Same (upd V a o) H := fun b u e => by
    by_cases n : b = a
    · subst n; rw [upd_same] at e; cases e; exact hh
    · rw [upd_ne n] at e; exact r.vh b u e
  have get : ∀ {j : Nat} {c : Cell}, (S.set i (a, [], .dead))[j]? = some c → (j ≠ i ∧ S[j]? = some c) ∨ (j = i ∧ c = (a, [], .dead)) := fun {j c} e => by
    rw [List.getElem?_set] at e
    by_cases hj : i = j
    · subst hj
      rw [if_pos rfl, if_pos (List.getElem?_eq_some_iff.mp hi).1] at e
      cases e; exact .inr ⟨rfl, rfl⟩
    · rw [if_neg hj] at e; exact .inl ⟨fun z => hj z.symm, e⟩
  refine ⟨⟨r.v0.trans sv, vh, r.keep, r.f0, fun b e => ?_, fun j c e => ?_, fun j c e b hb => ?_, fun j k c c' hjk e e' b hb hb' => ?_⟩, ⟨sv, fun j c h => ?_⟩⟩
  · by_cases n : b = a
    · subst n; exact .inr (.inl h0)
    · rw [upd_ne n] at e ⊢; exact r.vnew b e
  · rcases get e with ⟨hj, e⟩ | ⟨_, rfl⟩
    · exact (r.own j c e).stay sv vh fun b hb => rfl
    · rfl
  · rcases get e with ⟨hj, e⟩ | ⟨_, rfl⟩
    · obtain ⟨h1, h2, h3⟩ := r.foot j c e b hb
      have n : b ≠ a := fun z => r.sep i j _ c (fun q => hj q.symm) hi e a (List.mem_singleton_self a) (by rw [← z]; exact hb)
      exact ⟨by rw [upd_ne n]; exact h1, h2, h3⟩
    · cases hb
  · rcases get e with ⟨hj, e⟩ | ⟨hj, rfl⟩
    · rcases get e' with ⟨hk, e'⟩ | ⟨hk, rfl⟩
      · exact r.sep j k c c' hjk e e' b hb hb'
      · cases hb'
    · cases hb
  · by_cases hj : i = j
    · subst hj
      rw [hi] at h; cases h
      exact ⟨(a, [], .dead), by rw [List.getElem?_set, if_pos rfl, if_pos (List.getElem?_eq_some_iff.mp hi).1], rfl⟩
    · exact ⟨c, by rw [List.getElem?_set, if_neg hj]; exact h, rfl⟩
theorem obs_get {i : Nat} {o : Ob} (h : (obs S)[i]? = some o) : ∃ c : Cell, S[i]? = some c ∧ c.2.2 = o := by
  rw [List.getElem?_map] at h
  cases q : S[i]? with
  | none => rw [q] at h; cases h
  | some c => rw [q] at h; exact ⟨c, rfl, Option.some.inj h⟩
theorem obs_set {i : Nat} {c : Cell} : obs (S.set i c) = (obs S).set i c.2.2 := List.map_set
end
end PW

namespace PW
open PySem PySem.Spec PyProof.Rows L2
/-! ### the weakest readings -/
section
variable {X : Cx} {σ : L2.St} {H : Hp}
def wE (X : Cx) (e : Expr) : TE := fun σ H Q => ∀ pins s, Inv X pins σ H s → wpAny (model X.prog X.w) X.A (eval e X.env) (EP X pins σ Q) X.xe s
theorem wE_pe {e : Expr} : PE X e (wE X e) := ⟨fun pins s σ H Q I h => h pins s I⟩
theorem wE_of {e : Expr} {t : TE} {Q : VK} (h : PE X e t) (q : t σ H Q) : wE X e σ H Q := fun pins s I => h.run pins s σ H Q I q
theorem wE_mono {e : Expr} {Q Q' : VK} (h : wE X e σ H Q) (k : ∀ v H', Q v H' → Q' v H') : wE X e σ H Q' := fun pins s I => thn (h pins s I) fun u s' ⟨v, H', I', r, q⟩ => ⟨v, H', I', r, k v H' q⟩
def wT (X : Cx) (e : Expr) : TT := fun σ H Q => ∀ pins s, Inv X pins σ H s → wpAny (model X.prog X.w) X.A (isTrue e X.env (eval e X.env)) (TP X pins σ Q) X.xe s
theorem wT_pt {e : Expr} : PT X e (wT X e) := ⟨fun pins s σ H Q I h => h pins s I⟩
theorem wT_of {e : Expr} {t : TT} {Q : Bool → Hp → Prop} (h : PT X e t) (q : t σ H Q) : wT X e σ H Q := fun pins s I => h.run pins s σ H Q I q
theorem wT_mono {e : Expr} {Q Q' : Bool → Hp → Prop} (h : wT X e σ H Q) (k : ∀ v H', Q v H' → Q' v H') : wT X e σ H Q' := fun pins s I => thn (h pins s I) fun u s' ⟨H', I', q⟩ => ⟨H', I', k u H' q⟩
def wW (X : Cx) (e : Expr) : TT := fun σ H Q => ∀ whole pins s, Inv X pins σ H s → wpAny (model X.prog X.w) X.A (isTrue e X.env whole) (TP X pins σ Q) X.xe s
theorem wW_pw {e : Expr} : PW X e (wW X e) := ⟨fun wh pins s σ H Q I h => h wh pins s I⟩
theorem wW_of {e : Expr} {t : TT} {Q : Bool → Hp → Prop} (h : PW X e t) (q : t σ H Q) : wW X e σ H Q := fun wh pins s I => h.run wh pins s σ H Q I q
theorem wW_mono {e : Expr} {Q Q' : Bool → Hp → Prop} (h : wW X e σ H Q) (k : ∀ v H', Q v H' → Q' v H') : wW X e σ H Q' := fun wh pins s I => thn (h wh pins s I) fun u s' ⟨H', I', q⟩ => ⟨H', I', k u H' q⟩
def wA (X : Cx) (es : List Expr) : TA := fun σ H Q => ∀ pos pins s, Inv X pins σ H s → wpAny (model X.prog X.w) X.A (spliced (backTo pos (starEach es X.env))) (AP X pins σ Q) X.xe s
theorem wA_pa {es : List Expr} : PA X es (wA X es) := ⟨fun pos pins s σ H Q I h => h pos pins s I⟩
theorem wA_of {es : List Expr} {t : TA} {Q : List L2.V → Hp → Prop} (h : PA X es t) (q : t σ H Q) : wA X es σ H Q := fun pos pins s I => h.run pos pins s σ H Q I q
theorem wA_mono {es : List Expr} {Q Q' : List L2.V → Hp → Prop} (h : wA X es σ H Q) (k : ∀ v H', Q v H' → Q' v H') : wA X es σ H Q' := fun pos pins s I => thn (h pos pins s I) fun u s' ⟨v, H', I', r, q⟩ => ⟨v, H', I', r, k v H' q⟩
def wO (X : Cx) (f : Value → Value → Sem Value) : R2 := fun x y H Q => ∃ r, OpR X f r ∧ r x y H Q
theorem wO_op {f : Value → Value → Sem Value} : OpR X f (wO X f) := fun pins s σ H x y v u Q I rx ry ⟨r, hr, q⟩ => hr pins s σ H x y v u Q I rx ry q
def wX (X : Cx) : R2 := fun x y H Q => ∃ r, IxR X r ∧ r x y H Q
theorem wX_ix : IxR X (wX X) := fun value slice pins s σ H x y v u Q I rx ry ⟨r, hr, q⟩ => hr value slice pins s σ H x y v u Q I rx ry q
def wU (X : Cx) (f : Value → Sem Value) : L2.V → Hp → VK → Prop := fun x H Q => ∃ r, UnR X f r ∧ r x H Q
theorem wU_un {f : Value → Sem Value} : UnR X f (wU X f) := fun pins s σ H x v Q I rx ⟨r, hr, q⟩ => hr pins s σ H x v Q I rx q
def wC (X : Cx) (f : Value) : List L2.V → Hp → VK → Prop := fun xs H Q => ∃ r, CallR X f r ∧ r xs H Q
theorem wC_call {f : Value} : CallR X f (wC X f) := fun pins s σ H xs us Q I rx ⟨r, hr, q⟩ => hr pins s σ H xs us Q I rx q
def wM (X : Cx) (id : String) : L2.V → List L2.V → Hp → VK → Prop := fun x xs H Q => ∃ r, MtR X id r ∧ r x xs H Q
theorem wM_mt {id : String} : MtR X id (wM X id) := fun pins s σ H x xs v us Q I rx rs ⟨r, hr, q⟩ => hr pins s σ H x xs v us Q I rx rs q
end
/-! ### what holds behind -/
abbrev QE := DV → List Ob → Prop
abbrev PTE := PEnv → List Ob → QE → Prop
abbrev PTT := PEnv → List Ob → (Bool → List Ob → Prop) → Prop
abbrev PTA := PEnv → List Ob → (List DV → List Ob → Prop) → Prop
def PostE (K : PySem.W.Frag) (R : Fr) (S : List Cell) (V : Hp) (Q : QE) : VK := fun v H' => ∃ S' V' dv, Rep K R S' V' H' ∧ Ext S V S' V' ∧ DVat K S' V' v dv ∧ Q dv (obs S')
def PostT (K : PySem.W.Frag) (R : Fr) (S : List Cell) (V : Hp) (Q : Bool → List Ob → Prop) : Bool → Hp → Prop := fun b H' => ∃ S' V', Rep K R S' V' H' ∧ Ext S V S' V' ∧ Q b (obs S')
def PostA (K : PySem.W.Frag) (R : Fr) (S : List Cell) (V : Hp) (Q : List DV → List Ob → Prop) : List L2.V → Hp → Prop := fun vs H' => ∃ S' V' dvs, Rep K R S' V' H' ∧ Ext S V S' V' ∧ DVs K S' V' vs dvs ∧ Q dvs (obs S')
section
variable {K : PySem.W.Frag} {R : Fr} {S S' : List Cell} {V V' H : Hp} {Q : QE}
theorem PostE.ext {v : L2.V} (e : Ext S V S' V') (h : PostE K R S' V' Q v H) : PostE K R S V Q v H := by
  obtain ⟨S2, V2, dv, r, e2, d, q⟩ := h
  exact ⟨S2, V2, dv, r, e.trans e2, d, q⟩
theorem PostT.ext {b : Bool} {Q : Bool → List Ob → Prop} (e : Ext S V S' V') (h : PostT K R S' V' Q b H) : PostT K R S V Q b H := by
  obtain ⟨S2, V2, r, e2, q⟩ := h
  exact ⟨S2, V2, r, e.trans e2, q⟩
theorem PostA.ext {vs : List L2.V} {Q : List DV → List Ob → Prop} (e : Ext S V S' V') (h : PostA K R S' V' Q vs H) : PostA K R S V Q vs H := by
  obtain ⟨S2, V2, dv, r, e2, d, q⟩ := h
  exact ⟨S2, V2, dv, r, e.trans e2, d, q⟩
theorem PostE.here {v : L2.V} {dv : DV} (r : Rep K R S V H) (d : DVat K S V v dv) (q : Q dv (obs S)) : PostE K R S V Q v H := ⟨S, V, dv, r, Ext.refl, d, q⟩
theorem PostE.hd {v : L2.V} {x : PyData} (r : Rep K R S V H) (d : Dq K V v x) (q : Q (.d x) (obs S)) : PostE K R S V Q v H := ⟨S, V, .d x, r, Ext.refl, d, q⟩
/-- a new thing that does not change -/
theorem PostE.new {p : Addr} {o : HO} {x : PyData} (r : Rep K R S V H) (hp : H p = none) (d : Dq K (upd V p o) (.ref p) x) (q : Q (.d x) (obs S)) : PostE K R S V Q (.ref p) (upd H p o) := by
  obtain ⟨r', e⟩ := r.new (o := o) hp
  exact ⟨S, _, .d x, r', e, d, q⟩
end
/-! ### the judgements -/
def EW (X : Cx) (R : Fr) (e : Expr) (f : PTE) : Prop := ∀ (S : List Cell) (V H : Hp) (σ : L2.St) (Γ : PEnv) (Q : QE), Rep X.K R S V H → Slots X.K S V σ Γ → f Γ (obs S) Q → wE X e σ H (PostE X.K R S V Q)
def TW (X : Cx) (R : Fr) (e : Expr) (f : PTT) : Prop := ∀ (S : List Cell) (V H : Hp) (σ : L2.St) (Γ : PEnv) (Q : Bool → List Ob → Prop), Rep X.K R S V H → Slots X.K S V σ Γ → f Γ (obs S) Q → wT X e σ H (PostT X.K R S V Q)
def WW (X : Cx) (R : Fr) (e : Expr) (f : PTT) : Prop := ∀ (S : List Cell) (V H : Hp) (σ : L2.St) (Γ : PEnv) (Q : Bool → List Ob → Prop), Rep X.K R S V H → Slots X.K S V σ Γ → f Γ (obs S) Q → wW X e σ H (PostT X.K R S V Q)
def AW (X : Cx) (R : Fr) (es : List Expr) (f : PTA) : Prop := ∀ (S : List Cell) (V H : Hp) (σ : L2.St) (Γ : PEnv) (Q : List DV → List Ob → Prop), Rep X.K R S V H → Slots X.K S V σ Γ → f Γ (obs S) Q → wA X es σ H (PostA X.K R S V Q)
section
variable {X : Cx} {R : Fr}
/-! ### names, constants -/
def qVar (i : Nat) : PTE := fun Γ O Q => match Γ[i]? with
  | some (some dv) => Q dv O
  | _ => False
theorem ew_var (i : Nat) {x : Str} {pos : Pos} (hN : X.N[i]? = some x := by rfl) (hv : Vis X.env.scope x := by first | exact Or.inl rfl | exact Or.inr (Or.inl rfl) | exact Or.inr (Or.inr rfl)) (hd : (x == ("__debug__" : Str)) = false := by decide)
    (hcd : (x == ("__classdict__" : Str)) = false := by decide) : EW X R (.Name x pos) (qVar i) := by
  intro S V H σ Γ Q r sl q
  unfold qVar at q
  split at q
  · rename_i dv e
    obtain ⟨v, h1, h2⟩ := sl.at_ i dv e
    exact wE_of (pe_var hN hv hd hcd) ⟨v, h1, .here r h2 q⟩
  · exact q.elim
def qC (x : PyData) : PTE := fun _ O Q => Q (.d x) O
theorem ew_int {i j pos} : EW X R (.Constant (.int i) j pos) (qC (.int i)) := fun S V H σ Γ Q r sl q => wE_of pe_int (PostE.hd r (.int i) q)
theorem ew_bl {i j pos} : EW X R (.Constant (.bool i) j pos) (qC (.bool i)) := fun S V H σ Γ Q r sl q => wE_of pe_bl (PostE.hd r (.bl i) q)
theorem ew_non {j pos} : EW X R (.Constant .none j pos) (qC .none) := fun S V H σ Γ Q r sl q => wE_of pe_non (PostE.hd r .non q)
theorem ew_str {i j pos} : EW X R (.Constant (.str i) j pos) (qC (.str i)) := fun S V H σ Γ Q r sl q => wE_of pe_str (PostE.hd r (.str i) q)
theorem ew_glob {x : Str} {v : L2.V} {u : Value} {d : PyData} {pos : Pos} (hm : X.mg x = some u) (hg : Gl X x := by rfl) (rv : RelV v u) (hd : ∀ V, Dq X.K V v d) (hb : (x == ("__debug__" : Str)) = false := by decide) : EW X R (.Name x pos) (qC d) :=
  fun S V H σ Γ Q r sl q => wE_of (pe_glob hg hm rv hb) (PostE.hd r (hd V) q)
/-! ### two-place operations -/
/-- what is read at once: data, or an owned list as it stands -/
def lstOf : Option Ob → Option PyData
  | some (.lst ds) => some (.list ds)
  | _ => none
theorem lstOf_some {o : Option Ob} {x : PyData} (h : lstOf o = some x) : ∃ ds, o = some (.lst ds) ∧ x = .list ds := by
  unfold lstOf at h
  split at h
  · cases h; exact ⟨_, rfl, rfl⟩
  · cases h
def rd (O : List Ob) : DV → Option PyData
  | .d x => some x
  | .o i => lstOf O[i]?
  | .x _ => none
theorem rd_dq {K : PySem.W.Frag} {S : List Cell} {V H : Hp} {v : L2.V} {dv : DV} {x : PyData} (r : Rep K R S V H) (d : DVat K S V v dv) (e : rd (obs S) dv = some x) : Dq K H v x := by
  cases dv with
  | d y => cases e; exact Dq.mono r.vh d
  | o i =>
    obtain ⟨c, hc, rfl⟩ := d
    obtain ⟨ds, q, rfl⟩ := lstOf_some e
    obtain ⟨c', hc', ho⟩ := obs_get q
    rw [hc] at hc'; cases hc'
    have := r.own i c hc
    rw [ho] at this
    obtain ⟨_, xs, h1, h2⟩ := this
    exact .lst h1 (h2.mono r.vh)
  | x _ => cases e
/-- the items of a list are of the view -/
theorem rd_lst {K : PySem.W.Frag} {S : List Cell} {V H : Hp} {v : L2.V} {dv : DV} {ds : List PyData} (r : Rep K R S V H) (d : DVat K S V v dv) (e : rd (obs S) dv = some (.list ds)) : ∃ a xs, v = .ref a ∧ H a = some (.lst xs) ∧ DqL K V xs ds := by
  cases dv with
  | d y =>
    cases e
    cases d with
    | lst h1 h2 => exact ⟨_, _, rfl, r.vh _ _ h1, h2⟩
  | o i =>
    obtain ⟨c, hc, rfl⟩ := d
    obtain ⟨ds', q, e'⟩ := lstOf_some e
    cases e'
    obtain ⟨c', hc', ho⟩ := obs_get q
    rw [hc] at hc'; cases hc'
    have := r.own i c hc
    rw [ho] at this
    obtain ⟨_, xs, h1, h2⟩ := this
    exact ⟨_, xs, rfl, h1, h2⟩
  | x _ => cases e
theorem rd_tup {K : PySem.W.Frag} {S : List Cell} {V H : Hp} {v : L2.V} {dv : DV} {ds : List PyData} (r : Rep K R S V H) (d : DVat K S V v dv) (e : rd (obs S) dv = some (.tuple ds)) : ∃ a xs, v = .ref a ∧ SqT K V a xs ∧ DqL K V xs ds := by
  cases dv with
  | d y =>
    cases e
    cases d with
    | tup h1 h2 => exact ⟨_, _, rfl, h1, h2⟩
  | o i =>
    obtain ⟨ds', q, e'⟩ := lstOf_some e
    cases e'
  | x _ => cases e
abbrev VOp := DV → DV → List Ob → QE → Prop
def OpW (X : Cx) (R : Fr) (f : Value → Value → Sem Value) (op : VOp) : Prop := ∀ (S : List Cell) (V H : Hp) (x y : L2.V) (da db : DV) (Q : QE), Rep X.K R S V H → DVat X.K S V x da → DVat X.K S V y db → op da db (obs S) Q → wO X f x y H (PostE X.K R S V Q)
def qBin (op : VOp) (f g : PTE) : PTE := fun Γ O Q => f Γ O fun x O1 => g Γ O1 fun y O2 => op x y O2 Q
variable {a b c : Expr} {f g h : PTE} {pos : Pos}
theorem ew_bin {op : Operator} {o : VOp} (ho : OpW X R (binaryOp op) o) (ha : EW X R a f) (hb : EW X R b g) : EW X R (.BinOp a op b pos) (qBin o f g) := by
  intro S V H σ Γ Q r sl q
  refine wE_of (pe_op wO_op wE_pe wE_pe) (wE_mono (ha S V H σ Γ _ r sl q) fun v H1 ⟨S1, V1, da, r1, e1, d1, q1⟩ => ?_)
  refine wE_mono (hb S1 V1 H1 σ Γ _ r1 (sl.mono e1) q1) fun u H2 ⟨S2, V2, db, r2, e2, d2, q2⟩ => ?_
  obtain ⟨t, ht, q3⟩ := ho S2 V2 H2 v u da db Q r2 (d1.mono e2) d2 q2
  exact ⟨fun x y H Q => ∃ Q', (∀ v H, Q' v H → Q v H) ∧ t x y H Q', fun pins s σ H x y v u Q I rx ry ⟨Q', hQ, z⟩ => thn (ht pins s σ H x y v u Q' I rx ry z) fun _ _ ⟨v, H', I', r, q⟩ => ⟨v, H', I', r, hQ v H' q⟩, _, fun v H z => PostE.ext (e1.trans e2) z, q3⟩
def opI (f : Int → Int → PyData) : VOp := fun x y O Q => match rd O x, rd O y with
  | some (.int i), some (.int j) => Q (.d (f i j)) O
  | _, _ => False
def opAdd : VOp := fun x y O Q => match rd O x, rd O y with
  | some (.int i), some (.int j) => Q (.d (.int (i + j))) O
  | some (.list xs), some (.list ys) => xs.length + ys.length ≤ 100000 ∧ Q (.d (.list (xs ++ ys))) O
  | some (.tuple xs), some (.tuple ys) => xs.length + ys.length ≤ 100000 ∧ Q (.d (.tuple (xs ++ ys))) O
  | _, _ => False
def opSub : VOp := fun x y O Q => match rd O x, rd O y with
  | some (.int i), some (.int j) => Q (.d (.int (i - j))) O
  | _, _ => False
def opMul : VOp := fun x y O Q => match rd O x, rd O y with
  | some (.int i), some (.int j) => ((-(2 ^ 64) < i ∧ i < 2 ^ 64) ∨ (-(2 ^ 64) < j ∧ j < 2 ^ 64)) ∧ Q (.d (.int (i * j))) O
  | some (.list xs), some (.int k) => xs.length ≤ 100000 ∧ (k = 0 ∨ k = 1) ∧ Q (.d (.list (if k = 0 then [] else xs))) O
  | _, _ => False
def opMod : VOp := fun x y O Q => match rd O x, rd O y with
  | some (.int i), some (.int j) => 0 < j ∧ Q (.d (.int (i % j))) O
  | _, _ => False
def opFdiv : VOp := fun x y O Q => match rd O x, rd O y with
  | some (.int i), some (.int j) => (0 < j ∧ j < 1073741824) ∧ Q (.d (.int (i / j))) O
  | _, _ => False
def opPow : VOp := fun x y O Q => match rd O x, rd O y with
  | some (.int i), some (.int j) => CPow i j ∧ Q (.d (.int (i ^ j.toNat))) O
  | _, _ => False
theorem dq_int {K : PySem.W.Frag} {V : Hp} {v : L2.V} {i : Int} (h : Dq K V v (.int i)) : v = .int i := by cases h; rfl
theorem ow_sub : OpW X R (binaryOp .Sub) opSub := by
  intro S V H x y da db Q r dx dy q
  unfold opSub at q
  split at q
  · rename_i i j e1 e2
    cases dq_int (rd_dq r dx e1); cases dq_int (rd_dq r dy e2)
    exact ⟨_, op_sub, i, j, rfl, rfl, .hd r (.int _) q⟩
  · exact q.elim
theorem ow_mod : OpW X R (binaryOp .Mod) opMod := by
  intro S V H x y da db Q r dx dy q
  unfold opMod at q
  split at q
  · rename_i i j e1 e2
    cases dq_int (rd_dq r dx e1); cases dq_int (rd_dq r dy e2)
    exact ⟨_, op_mod, i, j, rfl, rfl, q.1, .hd r (.int _) q.2⟩
  · exact q.elim
theorem ow_fdiv : OpW X R (binaryOp .FloorDiv) opFdiv := by
  intro S V H x y da db Q r dx dy q
  unfold opFdiv at q
  split at q
  · rename_i i j e1 e2
    cases dq_int (rd_dq r dx e1); cases dq_int (rd_dq r dy e2)
    exact ⟨_, op_fdiv, i, j, rfl, rfl, ⟨by omega, by omega⟩, .hd r (.int _) q.2⟩
  · exact q.elim
theorem ow_pow : OpW X R (binaryOp .Pow) opPow := by
  intro S V H x y da db Q r dx dy q
  unfold opPow at q
  split at q
  · rename_i i j e1 e2
    cases dq_int (rd_dq r dx e1); cases dq_int (rd_dq r dy e2)
    exact ⟨_, op_pow, i, j, rfl, rfl, q.1, .hd r (.int _) q.2⟩
  · exact q.elim
theorem ow_mul : OpW X R (binaryOp .Mult) opMul := by
  intro S V H x y da db Q r dx dy q
  unfold opMul at q
  split at q
  · rename_i i j e1 e2
    cases dq_int (rd_dq r dx e1); cases dq_int (rd_dq r dy e2)
    exact ⟨_, op_mul, i, j, rfl, rfl, q.1, .hd r (.int _) q.2⟩
  · rename_i xs k e1 e2
    obtain ⟨p, vs, rfl, hp, hd⟩ := rd_lst r dx e1
    cases dq_int (rd_dq r dy e2)
    obtain ⟨hz, hk, q⟩ := q
    have hs : sizeLine = 16777216 := sizeLine_eq
    have hl := hd.length
    refine ⟨_, op_rep, p, k, vs, rfl, rfl, hp, by omega, by omega, ?_, fun l hn => ?_⟩
    · rcases hk with rfl | rfl
      · simp
      · simp; omega
    · rcases hk with rfl | rfl
      · exact .new r hn (.lst upd_same .nil) q
      · refine .new r hn (.lst upd_same ?_) q
        have : (List.replicate (1 : Int).toNat vs).flatten = vs := by simp
        rw [this]
        exact hd.mono (r.new hn).2.v
  · exact q.elim
theorem ow_add : OpW X R (binaryOp .Add) opAdd := by
  intro S V H x y da db Q r dx dy q
  unfold opAdd at q
  have hs : sizeLine = 16777216 := sizeLine_eq
  split at q
  · rename_i i j e1 e2
    cases dq_int (rd_dq r dx e1); cases dq_int (rd_dq r dy e2)
    exact ⟨_, op_add, i, j, rfl, rfl, .hd r (.int _) q⟩
  · rename_i xs ys e1 e2
    obtain ⟨p, vs, rfl, hp, hd⟩ := rd_lst r dx e1
    obtain ⟨p2, us, rfl, hp2, hd2⟩ := rd_lst r dy e2
    have hl := hd.length
    have hl2 := hd2.length
    refine ⟨_, op_cat, p, p2, vs, us, rfl, rfl, hp, hp2, by omega, fun l hn => ?_⟩
    exact .new r hn (.lst upd_same ((hd.append hd2).mono (r.new hn).2.v)) q.2
  · rename_i xs ys e1 e2
    obtain ⟨p, vs, rfl, hp, hd⟩ := rd_tup r dx e1
    obtain ⟨p2, us, rfl, hp2, hd2⟩ := rd_tup r dy e2
    have hl := hd.length
    have hl2 := hd2.length
    have emp : ∀ {vs : List L2.V} {xs : List PyData}, DqL X.K V vs xs → vs = [] → xs = [] := fun {vs xs} hd e => by subst e; cases hd; rfl
    refine ⟨_, op_catA, p, p2, vs, us, rfl, rfl, same_seqT r.vh hp, same_seqT r.vh hp2, by omega, fun e => ?_, fun _ e => ?_, fun _ _ l hn => ?_⟩
    · cases emp hd e
      exact .hd r (.tup hp2 hd2) (by simpa using q.2)
    · cases emp hd2 e
      exact .hd r (.tup hp hd) (by simpa using q.2)
    · exact .new r hn (.tup (SqT.of upd_same) ((hd.append hd2).mono (r.new hn).2.v)) q.2
  · exact q.elim
/-! ### comparisons -/
theorem ew_cmp {op : CmpOp} {o : VOp} (ho : OpW X R (compareOp op) o) (ha : EW X R a f) (hb : EW X R b g) (hm : behindInMarks op b = false := by first | exact nomark _ | rfl) : EW X R (.Compare a [op] [b] pos) (qBin o f g) := by
  intro S V H σ Γ Q r sl q
  refine wE_of (pe_cmpR wO_op wE_pe wE_pe hm) (wE_mono (ha S V H σ Γ _ r sl q) fun v H1 ⟨S1, V1, da, r1, e1, d1, q1⟩ => ?_)
  refine wE_mono (hb S1 V1 H1 σ Γ _ r1 (sl.mono e1) q1) fun u H2 ⟨S2, V2, db, r2, e2, d2, q2⟩ => ?_
  obtain ⟨t, ht, q3⟩ := ho S2 V2 H2 v u da db Q r2 (d1.mono e2) d2 q2
  exact ⟨fun x y H Q => ∃ Q', (∀ v H, Q' v H → Q v H) ∧ t x y H Q', fun pins s σ H x y v u Q I rx ry ⟨Q', hQ, z⟩ => thn (ht pins s σ H x y v u Q' I rx ry z) fun _ _ ⟨v, H', I', r, q⟩ => ⟨v, H', I', r, hQ v H' q⟩, _, fun v H z => PostE.ext (e1.trans e2) z, q3⟩
def opC (p : Int → Int → Bool) : VOp := fun x y O Q => match rd O x, rd O y with
  | some (.int i), some (.int j) => Q (.d (.bool (p i j))) O
  | _, _ => False
theorem ow_cmpI {op : CmpOp} {p : Int → Int → Bool} (ho : OpR X (compareOp op) (rI0 fun i j => .bl (p i j))) : OpW X R (compareOp op) (opC p) := by
  intro S V H x y da db Q r dx dy q
  unfold opC at q
  split at q
  · rename_i i j e1 e2
    cases dq_int (rd_dq r dx e1); cases dq_int (rd_dq r dy e2)
    exact ⟨_, ho, i, j, rfl, rfl, .hd r (.bl _) q⟩
  · exact q.elim
abbrev opLt : VOp := opC fun i j => decide (i < j)
abbrev opLe : VOp := opC fun i j => decide (i ≤ j)
abbrev opGt : VOp := opC fun i j => decide (j < i)
abbrev opGe : VOp := opC fun i j => decide (j ≤ i)
theorem ow_lt : OpW X R (compareOp .Lt) opLt := ow_cmpI op_lt
theorem ow_le : OpW X R (compareOp .LtE) opLe := ow_cmpI op_le
theorem ow_gt : OpW X R (compareOp .Gt) opGt := ow_cmpI op_gt
theorem ow_ge : OpW X R (compareOp .GtE) opGe := ow_cmpI op_ge
def scalD : PyData → PyData → Bool
  | .none, .none => true
  | .none, .int _ => true
  | .int _, .none => true
  | .none, .bool _ => true
  | .bool _, .none => true
  | .none, .str _ => true
  | .str _, .none => true
  | .int _, .int _ => true
  | .bool _, .bool _ => true
  | .str _, .str _ => true
  | .int _, .str _ => true
  | .str _, .int _ => true
  | .bool _, .str _ => true
  | .str _, .bool _ => true
  | _, _ => false
theorem scal_dq {K : PySem.W.Frag} {V : Hp} {d e : PyData} {v u : L2.V} (h1 : Dq K V v d) (h2 : Dq K V u e) (s : scalD d e = true) : scal v u = true ∧ decide (v = u) = PyData.eqv d e := by
  have hi : ∀ {i j : Int}, decide (L2.V.int i = L2.V.int j) = (i == j) := fun {i j} => by
    by_cases h : i = j
    · subst h; simp
    · rw [decide_eq_false (fun z => h (L2.V.int.inj z)), beq_eq_false_iff_ne.mpr h]
  have hb : ∀ {i j : Bool}, decide (L2.V.bl i = L2.V.bl j) = (i == j) := fun {i j} => by cases i <;> cases j <;> rfl
  have hs : ∀ {i j : Str}, decide (L2.V.str i = L2.V.str j) = (i == j) := fun {i j} => by
    by_cases h : i = j
    · subst h; simp
    · rw [decide_eq_false (fun z => h (L2.V.str.inj z)), beq_eq_false_iff_ne.mpr h]
  cases h1 <;> cases h2 <;> first | (cases s; done) | exact ⟨rfl, hi⟩ | exact ⟨rfl, hb⟩ | exact ⟨rfl, hs⟩ | exact ⟨rfl, rfl⟩
def opEq : VOp := fun x y O Q => match rd O x, rd O y with
  | some d, some e => match scalD d e with
    | true => Q (.d (.bool (PyData.eqv d e))) O
    | false => SeqAt.shaped d = true ∧ SeqAt.shaped e = true ∧ Q (.d (.bool (PyData.eqv d e))) O
  | _, _ => False
def opNe : VOp := fun x y O Q => match rd O x, rd O y with
  | some d, some e => match scalD d e with
    | true => Q (.d (.bool (!PyData.eqv d e))) O
    | false => SeqAt.shaped d = true ∧ SeqAt.shaped e = true ∧ Q (.d (.bool (!PyData.eqv d e))) O
  | _, _ => False
theorem ow_eq (hu : X.A.units + 65 < cLine) : OpW X R (compareOp .Eq) opEq := by
  intro S V H x y da db Q r dx dy q
  unfold opEq at q
  split at q
  · rename_i d e e1 e2
    split at q
    · rename_i hs
      obtain ⟨h1, h2⟩ := scal_dq (rd_dq r dx e1) (rd_dq r dy e2) hs
      exact ⟨_, op_eq, h1, by rw [h2]; exact .hd r (.bl _) q⟩
    · exact ⟨_, op_eqD (by omega), d, e, (rd_dq r dx e1).dp, (rd_dq r dy e2).dp, q.1, q.2.1, .hd r (.bl _) q.2.2⟩
  · exact q.elim
theorem ow_ne (hu : X.A.units + 65 < cLine) : OpW X R (compareOp .NotEq) opNe := by
  intro S V H x y da db Q r dx dy q
  unfold opNe at q
  split at q
  · rename_i d e e1 e2
    split at q
    · rename_i hs
      obtain ⟨h1, h2⟩ := scal_dq (rd_dq r dx e1) (rd_dq r dy e2) hs
      exact ⟨_, op_ne, h1, by rw [h2]; exact .hd r (.bl _) q⟩
    · exact ⟨_, op_neD (by omega), d, e, (rd_dq r dx e1).dp, (rd_dq r dy e2).dp, q.1, q.2.1, .hd r (.bl _) q.2.2⟩
  · exact q.elim
/-! in: a flat thing in a flat list or tuple; any thing in a list -/
def flatD : PyData → Bool
  | .none => true
  | .bool _ => true
  | .int _ => true
  | .str _ => true
  | _ => false
theorem flat_dq {K : PySem.W.Frag} {V : Hp} : ∀ {d : PyData} {v : L2.V}, Dq K V v d → flatD d = true → flatV v = true
  | .none, _, h, _ => by cases h; rfl
  | .bool _, _, h, _ => by cases h; rfl
  | .int _, _, h, _ => by cases h; rfl
  | .str _, _, h, _ => by cases h; rfl
  | .list _, _, _, h => by cases h
  | .tuple _, _, _, h => by cases h
  | .dict _, _, _, h => by cases h
theorem flat_dqL {K : PySem.W.Frag} {V : Hp} : ∀ {ds : List PyData} {vs : List L2.V}, DqL K V vs ds → ds.all flatD = true → vs.all flatV = true
  | [], _, h, _ => by cases h; rfl
  | d :: ds, _, h, q => by
    cases h with
    | cons h1 h2 =>
      rw [List.all_cons, Bool.and_eq_true] at q ⊢
      exact ⟨flat_dq h1 q.1, flat_dqL h2 q.2⟩
theorem eqV_dq {K : PySem.W.Frag} {V : Hp} {d e : PyData} {v u : L2.V} (h1 : Dq K V v d) (h2 : Dq K V u e) (f1 : flatD d = true) (f2 : flatD e = true) : eqV v u = PyData.eqv d e := by
  cases h1 <;> first | (cases f1; done) | (cases h2 <;> first | (cases f2; done) | rfl | simp only [eqV, PyData.eqv])

end
end PW

namespace PW
open PySem PySem.Spec PyProof.Rows L2
section
variable {X : Cx} {R : Fr} {a b c : Expr} {f g h : PTE} {pos : Pos}
/-! ### in -/
theorem any_dq {K : PySem.W.Frag} {V : Hp} {d : PyData} {v : L2.V} (h1 : Dq K V v d) (f1 : flatD d = true) : ∀ {ds : List PyData} {vs : List L2.V}, DqL K V vs ds → ds.all flatD = true → inV v vs = ds.any (fun z => PyData.eqv z d)
  | [], _, h, _ => by cases h; rfl
  | e :: ds, _, h, q => by
    cases h with
    | cons h2 h3 =>
      rw [List.all_cons, Bool.and_eq_true] at q
      unfold inV
      rw [List.any_cons, List.any_cons, eqV_dq h2 h1 q.1 f1]
      have := any_dq h1 f1 h3 q.2
      unfold inV at this
      rw [this]
def opIn (neg : Bool) : VOp := fun x y O Q => match rd O x, rd O y with
  | some d, some (.list ds) => SeqAt.shaped d = true ∧ SeqAt.shaped (.list ds) = true ∧ Q (.d (.bool (if neg then !ds.any (fun z => PyData.eqv z d) else ds.any (fun z => PyData.eqv z d)))) O
  | some d, some (.tuple ds) => flatD d = true ∧ ds.all flatD = true ∧ Q (.d (.bool (if neg then !ds.any (fun z => PyData.eqv z d) else ds.any (fun z => PyData.eqv z d)))) O
  | _, _ => False
theorem ow_in (hu : X.A.units + 65 < cLine) : OpW X R (compareOp .In) (opIn false) := by
  intro S V H x y da db Q r dx dy q
  unfold opIn at q
  split at q
  · rename_i d ds e1 e2
    exact ⟨_, op_inD hu, d, ds, (rd_dq r dx e1).dp, (rd_dq r dy e2).dp, q.1, q.2.1, .hd r (.bl _) q.2.2⟩
  · rename_i d ds e1 e2
    obtain ⟨p, us, rfl, hp, hd⟩ := rd_tup r dy e2
    have h1 := rd_dq r dx e1
    refine ⟨_, op_in_seq, p, us, rfl, .inr (same_seqT r.vh hp), flat_dq h1 q.1, flat_dqL hd q.2.1, ?_⟩
    rw [any_dq h1 q.1 (hd.mono r.vh) q.2.1]
    exact .hd r (.bl _) q.2.2
  · exact q.elim
theorem ow_notIn (hu : X.A.units + 65 < cLine) : OpW X R (compareOp .NotIn) (opIn true) := by
  intro S V H x y da db Q r dx dy q
  unfold opIn at q
  split at q
  · rename_i d ds e1 e2
    exact ⟨_, op_notInD hu, d, ds, (rd_dq r dx e1).dp, (rd_dq r dy e2).dp, q.1, q.2.1, .hd r (.bl _) q.2.2⟩
  · rename_i d ds e1 e2
    obtain ⟨p, us, rfl, hp, hd⟩ := rd_tup r dy e2
    have h1 := rd_dq r dx e1
    refine ⟨_, op_notIn_seq, p, us, rfl, .inr (same_seqT r.vh hp), flat_dq h1 q.1, flat_dqL hd q.2.1, ?_⟩
    rw [any_dq h1 q.1 (hd.mono r.vh) q.2.1]
    exact .hd r (.bl _) q.2.2
  · exact q.elim
/-! ### is None -/
def isNoneD : PyData → Bool
  | .none => true
  | _ => false
theorem none_dq {K : PySem.W.Frag} {V : Hp} {d : PyData} {v : L2.V} (h : Dq K V v d) : decide (v = .non) = isNoneD d := by
  cases h <;> rfl
def opIs (neg : Bool) : VOp := fun x y O Q => match y, x with
  | .d .none, .d d => Q (.d (.bool (if neg then !isNoneD d else isNoneD d))) O
  | .d .none, .o _ => Q (.d (.bool neg)) O
  | _, _ => False
theorem ow_is : OpW X R (compareOp .Is) (opIs false) := by
  intro S V H x y da db Q r dx dy q
  unfold opIs at q
  split at q
  · rename_i d
    cases dy
    refine ⟨_, op_isN, rfl, ?_⟩
    rw [none_dq dx]
    exact .hd r (.bl _) q
  · cases dy
    obtain ⟨c, _, rfl⟩ := dx
    refine ⟨_, op_isN, rfl, ?_⟩
    exact .hd r (.bl _) q
  · exact q.elim
theorem ow_isNot : OpW X R (compareOp .IsNot) (opIs true) := by
  intro S V H x y da db Q r dx dy q
  unfold opIs at q
  split at q
  · rename_i d
    cases dy
    refine ⟨_, op_notN, rfl, ?_⟩
    rw [none_dq dx]
    exact .hd r (.bl _) q
  · cases dy
    obtain ⟨c, _, rfl⟩ := dx
    refine ⟨_, op_notN, rfl, ?_⟩
    exact .hd r (.bl _) q
  · exact q.elim
/-! ### tests -/
def qB (f : PTE) : PTT := fun Γ O Q => f Γ O fun dv O1 => match dv with
  | .d (.bool k) => Q k O1
  | _ => False
def tru (Q : Bool → List Ob → Prop) (dv : DV) (O : List Ob) : Prop := match rd O dv with
  | some .none => Q false O
  | some (.bool k) => Q k O
  | some (.int i) => Q (i != 0) O
  | some (.list ds) => Q (!ds.isEmpty) O
  | some (.tuple ds) => Q (!ds.isEmpty) O
  | _ => False
def qTru (f : PTE) : PTT := fun Γ O Q => f Γ O (tru Q)
theorem post_bool {K : PySem.W.Frag} {S : List Cell} {V H : Hp} {v : L2.V} {Q : Bool → List Ob → Prop} (p : PostE K R S V (fun dv O1 => match dv with | .d (.bool k) => Q k O1 | _ => False) v H) : ∃ k, v = .bl k ∧ PostT K R S V Q k H := by
  obtain ⟨S1, V1, dv, r1, e1, d1, q1⟩ := p
  try dsimp only at q1
  split at q1
  · cases d1
    exact ⟨_, rfl, S1, V1, r1, e1, q1⟩
  · exact q1.elim
theorem tw_val (ha : EW X R a f) (he : ∀ whole, isTrue a X.env whole = (do let v ← whole; standAt a.pos; holding [v] (truthy v)) := by intro _; rfl) : TW X R a (qB f) := by
  intro S V H σ Γ Q r sl q
  refine wT_of (pt_val wE_pe he) (wE_mono (ha S V H σ Γ _ r sl q) fun v H1 p => ?_)
  obtain ⟨k, rfl, p'⟩ := post_bool p
  exact ⟨k, rfl, p'⟩
theorem isEmpty_dqL {K : PySem.W.Frag} {V : Hp} {ds : List PyData} {vs : List L2.V} (h : DqL K V vs ds) : vs.isEmpty = ds.isEmpty := by cases h <;> rfl
theorem tw_tru (ha : EW X R a f) (he : ∀ whole, isTrue a X.env whole = (do let v ← whole; standAt a.pos; holding [v] (truthy v)) := by intro _; rfl) : TW X R a (qTru f) := by
  intro S V H σ Γ Q r sl q
  refine wT_of (pt_truth wE_pe he) (wE_mono (ha S V H σ Γ _ r sl q) fun v H1 ⟨S1, V1, dv, r1, e1, d1, q1⟩ => ?_)
  unfold tru at q1
  try dsimp only at q1
  split at q1
  · rename_i e
    have := rd_dq r1 d1 e
    cases this
    exact ⟨_, rfl, S1, V1, r1, e1, q1⟩
  · rename_i k e
    have := rd_dq r1 d1 e
    cases this
    exact ⟨_, rfl, S1, V1, r1, e1, q1⟩
  · rename_i k e
    have := rd_dq r1 d1 e
    cases this
    exact ⟨_, rfl, S1, V1, r1, e1, q1⟩
  · rename_i ds e
    obtain ⟨p, vs, rfl, hp, hd⟩ := rd_lst r1 d1 e
    exact ⟨_, .inl ⟨vs, SqL.of hp, rfl⟩, S1, V1, r1, e1, by rw [isEmpty_dqL hd]; exact q1⟩
  · rename_i ds e
    obtain ⟨p, vs, rfl, hp, hd⟩ := rd_tup r1 d1 e
    exact ⟨_, .inr (.inl ⟨vs, same_seqT r1.vh hp, rfl⟩), S1, V1, r1, e1, by rw [isEmpty_dqL hd]; exact q1⟩
  · exact q1.elim
theorem tw_cmp {op : CmpOp} {o : VOp} (ho : OpW X R (compareOp op) o) (ha : EW X R a f) (hb : EW X R b g) (hm : behindInMarks op b = false := by first | exact nomark _ | rfl) : TW X R (.Compare a [op] [b] pos) (qB (qBin o f g)) := by
  intro S V H σ Γ Q r sl q
  refine wT_of (pt_cmpR wO_op wE_pe wE_pe hm) (wE_mono (ha S V H σ Γ _ r sl q) fun v H1 ⟨S1, V1, da, r1, e1, d1, q1⟩ => ?_)
  refine wE_mono (hb S1 V1 H1 σ Γ _ r1 (sl.mono e1) q1) fun u H2 ⟨S2, V2, db, r2, e2, d2, q2⟩ => ?_
  obtain ⟨t, ht, q3⟩ := ho S2 V2 H2 v u da db _ r2 (d1.mono e2) d2 q2
  exact ⟨fun x y H Q => ∃ Q', (∀ v H, Q' v H → Q v H) ∧ t x y H Q', fun pins s σ H x y v u Q I rx ry ⟨Q', hQ, z⟩ => thn (ht pins s σ H x y v u Q' I rx ry z) fun _ _ ⟨v, H', I', r, q⟩ => ⟨v, H', I', r, hQ v H' q⟩, _, fun v H z => by
    obtain ⟨k, hk, p⟩ := post_bool z
    exact ⟨k, hk, p.ext (e1.trans e2)⟩, q3⟩
def qNotT (t : PTT) : PTT := fun Γ O Q => t Γ O fun k O1 => Q (!k) O1
variable {t u : PTT} {rest : List Expr}
theorem tw_not (ha : TW X R a t) : TW X R (.UnaryOp .Not a pos) (qNotT t) := by
  intro S V H σ Γ Q r sl q
  exact wT_of (pt_not wT_pt) (wT_mono (ha S V H σ Γ _ r sl q) fun k H1 p => p)
def qAndT (t u : PTT) : PTT := fun Γ O Q => t Γ O fun k O1 => match k with
  | true => u Γ O1 Q
  | false => Q false O1
def qOrT (t u : PTT) : PTT := fun Γ O Q => t Γ O fun k O1 => match k with
  | true => Q true O1
  | false => u Γ O1 Q
theorem ww_and1 (ha : TW X R a t) : WW X R (.BoolOp .And [a] pos) t := fun S V H σ Γ Q r sl q => wW_of (pw_and1 wT_pt) (ha S V H σ Γ Q r sl q)
theorem ww_or1 (ha : TW X R a t) : WW X R (.BoolOp .Or [a] pos) t := fun S V H σ Γ Q r sl q => wW_of (pw_or1 wT_pt) (ha S V H σ Γ Q r sl q)
theorem ww_and (ha : TW X R a t) (hb : WW X R (.BoolOp .And (b :: rest) pos) u) : WW X R (.BoolOp .And (a :: b :: rest) pos) (qAndT t u) := by
  intro S V H σ Γ Q r sl q
  refine wW_of (pw_and wT_pt wW_pw) (wT_mono (ha S V H σ Γ _ r sl q) fun k H1 ⟨S1, V1, r1, e1, q1⟩ => ?_)
  cases k with
  | true =>
    rw [if_pos rfl]
    exact wW_mono (hb S1 V1 H1 σ Γ Q r1 (sl.mono e1) q1) fun _ _ p => p.ext e1
  | false =>
    rw [if_neg Bool.false_ne_true]
    exact ⟨S1, V1, r1, e1, q1⟩
theorem ww_or (ha : TW X R a t) (hb : WW X R (.BoolOp .Or (b :: rest) pos) u) : WW X R (.BoolOp .Or (a :: b :: rest) pos) (qOrT t u) := by
  intro S V H σ Γ Q r sl q
  refine wW_of (pw_or wT_pt wW_pw) (wT_mono (ha S V H σ Γ _ r sl q) fun k H1 ⟨S1, V1, r1, e1, q1⟩ => ?_)
  cases k with
  | true =>
    rw [if_pos rfl]
    exact ⟨S1, V1, r1, e1, q1⟩
  | false =>
    rw [if_neg Bool.false_ne_true]
    exact wW_mono (hb S1 V1 H1 σ Γ Q r1 (sl.mono e1) q1) fun _ _ p => p.ext e1
theorem tw_ww {e : Expr} (h : WW X R e t) : TW X R e t := fun S V H σ Γ Q r sl q pins s I => h S V H σ Γ Q r sl q _ pins s I
/-! ### and, or, not as values; a if t else b -/
def andK (g : PTE) (Γ : PEnv) (Q : QE) (k : Bool) (O : List Ob) : Prop := match k with
  | true => g Γ O Q
  | false => Q (.d (.bool false)) O
def orK (g : PTE) (Γ : PEnv) (Q : QE) (k : Bool) (O : List Ob) : Prop := match k with
  | true => Q (.d (.bool true)) O
  | false => g Γ O Q
def qAndV (f g : PTE) : PTE := fun Γ O Q => f Γ O fun dv O1 => match dv with
  | .d (.bool k) => andK g Γ Q k O1
  | _ => False
def qOrV (f g : PTE) : PTE := fun Γ O Q => f Γ O fun dv O1 => match dv with
  | .d (.bool k) => orK g Γ Q k O1
  | _ => False
def qNotV (f : PTE) : PTE := fun Γ O Q => f Γ O fun dv O1 => match dv with
  | .d (.bool k) => Q (.d (.bool (!k))) O1
  | _ => False
theorem ew_one {op} (ha : EW X R a f) : EW X R (.BoolOp op [a] pos) f := fun S V H σ Γ Q r sl q => wE_of (pe_one wE_pe) (ha S V H σ Γ Q r sl q)
theorem ew_and (ha : EW X R a f) (hb : EW X R (.BoolOp .And (b :: rest) pos) g) : EW X R (.BoolOp .And (a :: b :: rest) pos) (qAndV f g) := by
  intro S V H σ Γ Q r sl q
  refine wE_of (pe_and wE_pe wE_pe) (wE_mono (ha S V H σ Γ _ r sl q) fun v H1 ⟨S1, V1, dv, r1, e1, d1, q1⟩ => ?_)
  dsimp only at q1
  split at q1
  · rename_i k
    cases d1
    cases k with
    | true =>
      refine ⟨true, rfl, ?_⟩
      rw [if_pos rfl]
      exact wE_mono (hb S1 V1 H1 σ Γ Q r1 (sl.mono e1) q1) fun _ _ p => p.ext e1
    | false =>
      refine ⟨false, rfl, ?_⟩
      rw [if_neg Bool.false_ne_true]
      exact ⟨S1, V1, .d (.bool false), r1, e1, .bl _, q1⟩
  · exact q1.elim
theorem ew_or (ha : EW X R a f) (hb : EW X R (.BoolOp .Or (b :: rest) pos) g) : EW X R (.BoolOp .Or (a :: b :: rest) pos) (qOrV f g) := by
  intro S V H σ Γ Q r sl q
  refine wE_of (pe_or wE_pe wE_pe) (wE_mono (ha S V H σ Γ _ r sl q) fun v H1 ⟨S1, V1, dv, r1, e1, d1, q1⟩ => ?_)
  dsimp only at q1
  split at q1
  · rename_i k
    cases d1
    cases k with
    | true =>
      refine ⟨true, rfl, ?_⟩
      rw [if_pos rfl]
      exact ⟨S1, V1, .d (.bool true), r1, e1, .bl _, q1⟩
    | false =>
      refine ⟨false, rfl, ?_⟩
      rw [if_neg Bool.false_ne_true]
      exact wE_mono (hb S1 V1 H1 σ Γ Q r1 (sl.mono e1) q1) fun _ _ p => p.ext e1
  · exact q1.elim
theorem ew_not (ha : EW X R a f) : EW X R (.UnaryOp .Not a pos) (qNotV f) := by
  intro S V H σ Γ Q r sl q
  refine wE_of (pe_not wE_pe) (wE_mono (ha S V H σ Γ _ r sl q) fun v H1 ⟨S1, V1, dv, r1, e1, d1, q1⟩ => ?_)
  dsimp only at q1
  split at q1
  · cases d1
    exact ⟨_, rfl, S1, V1, .d (.bool _), r1, e1, .bl _, q1⟩
  · exact q1.elim
def qIf (t : PTT) (f g : PTE) : PTE := fun Γ O Q => t Γ O fun k O1 => match k with
  | true => f Γ O1 Q
  | false => g Γ O1 Q
theorem ew_if (hc : TW X R c t) (ha : EW X R a f) (hb : EW X R b g) : EW X R (.IfExp c a b pos) (qIf t f g) := by
  intro S V H σ Γ Q r sl q
  refine wE_of (pe_ifExp wT_pt wE_pe wE_pe) (wT_mono (hc S V H σ Γ _ r sl q) fun k H1 ⟨S1, V1, r1, e1, q1⟩ => ?_)
  cases k with
  | true =>
    rw [if_pos rfl]
    exact wE_mono (ha S1 V1 H1 σ Γ Q r1 (sl.mono e1) q1) fun _ _ p => p.ext e1
  | false =>
    rw [if_neg Bool.false_ne_true]
    exact wE_mono (hb S1 V1 H1 σ Γ Q r1 (sl.mono e1) q1) fun _ _ p => p.ext e1
def qNeg (f : PTE) : PTE := fun Γ O Q => f Γ O fun dv O1 => match dv with
  | .d (.int i) => Q (.d (.int (-i))) O1
  | _ => False
theorem ew_neg (ha : EW X R a f) : EW X R (.UnaryOp .USub a pos) (qNeg f) := by
  intro S V H σ Γ Q r sl q
  refine wE_of (pe_un un_neg wE_pe) (wE_mono (ha S V H σ Γ _ r sl q) fun v H1 ⟨S1, V1, dv, r1, e1, d1, q1⟩ => ?_)
  dsimp only at q1
  split at q1
  · cases d1
    exact ⟨_, rfl, S1, V1, .d (.int _), r1, e1, .int _, q1⟩
  · exact q1.elim
/-! ### argument lists, displays -/
variable {e : Expr} {es : List Expr} {fs : PTA}
def qNil : PTA := fun _ O Q => Q [] O
def qCons (f : PTE) (fs : PTA) : PTA := fun Γ O Q => f Γ O fun dv O1 => fs Γ O1 fun dvs O2 => Q (dv :: dvs) O2
theorem aw_nil : AW X R [] qNil := fun S V H σ Γ Q r sl q => wA_of pa_nil ⟨S, V, [], r, Ext.refl, .nil, q⟩
theorem aw_cons (ha : EW X R e f) (hr : AW X R es fs) (hs : starEach (e :: es) X.env = (false, eval e X.env) :: starEach es X.env := by rfl) : AW X R (e :: es) (qCons f fs) := by
  intro S V H σ Γ Q r sl q
  refine wA_of (pa_cons wE_pe wA_pa hs) (wE_mono (ha S V H σ Γ _ r sl q) fun v H1 ⟨S1, V1, dv, r1, e1, d1, q1⟩ => ?_)
  refine wA_mono (hr S1 V1 H1 σ Γ _ r1 (sl.mono e1) q1) fun vs H2 ⟨S2, V2, dvs, r2, e2, d2, q2⟩ => ?_
  exact ⟨S2, V2, dv :: dvs, r2, e1.trans e2, .cons (d1.mono e2) d2, q2⟩
def dats : List DV → Option (List PyData)
  | [] => some []
  | .d x :: r => match dats r with
    | some ds => some (x :: ds)
    | none => none
  | _ :: _ => none
theorem dats_dq {K : PySem.W.Frag} {S : List Cell} {V : Hp} : ∀ {dvs : List DV} {vs : List L2.V} {ds : List PyData}, DVs K S V vs dvs → dats dvs = some ds → DqL K V vs ds
  | [], _, _, .nil, e => by cases e; exact .nil
  | .d x :: r, _, ds, .cons h1 h2, e => by
    unfold dats at e
    split at e
    · rename_i ds' e'
      cases e
      exact .cons h1 (dats_dq h2 e')
    · cases e
  | .o _ :: _, _, _, _, e => by cases e
  | .x _ :: _, _, _, _, e => by cases e
def small (n : Nat) : Bool := decide (n ≤ 1000)
def qTup (fs : PTA) : PTE := fun Γ O Q => fs Γ O fun dvs O1 => match dats dvs, small dvs.length with
  | some ds, true => Q (.d (.tuple ds)) O1
  | _, _ => False
def qLst (fs : PTA) : PTE := fun Γ O Q => fs Γ O fun dvs O1 => match dats dvs, small dvs.length with
  | some ds, true => Q (.d (.list ds)) O1
  | _, _ => False
/-- a list that will change -/
def qLstO (fs : PTA) : PTE := fun Γ O Q => fs Γ O fun dvs O1 => match dats dvs, small dvs.length with
  | some ds, true => Q (.o O1.length) (O1 ++ [.lst ds])
  | _, _ => False
theorem small_line {n m : Nat} (h : small n = true) (e : m = n) : m ≤ sizeLine := by
  have := of_decide_eq_true h
  have hs : sizeLine = 16777216 := sizeLine_eq
  omega
theorem dvs_len {K : PySem.W.Frag} {S : List Cell} {V : Hp} {dvs : List DV} {vs : List L2.V} (h : DVs K S V vs dvs) : vs.length = dvs.length := Paired.length h
theorem ew_tup {x1} (ha : AW X R es fs) : EW X R (.Tuple es x1 pos) (qTup fs) := by
  intro S V H σ Γ Q r sl q
  refine wE_of (pe_tup wA_pa) (wA_mono (ha S V H σ Γ _ r sl q) fun vs H1 ⟨S1, V1, dvs, r1, e1, d1, q1⟩ => ?_)
  dsimp only at q1
  split at q1
  · rename_i ds h1 h2
    have hd := dats_dq d1 h1
    refine ⟨small_line h2 (dvs_len d1), fun p hp => ?_⟩
    exact (PostE.new r1 hp (.tup (SqT.of upd_same) (hd.mono (r1.new hp).2.v)) q1).ext e1
  · exact q1.elim
theorem ew_lst (ha : AW X R es fs) : EW X R (.List es pos) (qLst fs) := by
  intro S V H σ Γ Q r sl q
  refine wE_of (pe_lst wA_pa) (wA_mono (ha S V H σ Γ _ r sl q) fun vs H1 ⟨S1, V1, dvs, r1, e1, d1, q1⟩ => ?_)
  dsimp only at q1
  split at q1
  · rename_i ds h1 h2
    have hd := dats_dq d1 h1
    refine ⟨small_line h2 (dvs_len d1), fun p hp => ?_⟩
    exact (PostE.new r1 hp (.lst upd_same (hd.mono (r1.new hp).2.v)) q1).ext e1
  · exact q1.elim
theorem ew_lstO (ha : AW X R es fs) : EW X R (.List es pos) (qLstO fs) := by
  intro S V H σ Γ Q r sl q
  refine wE_of (pe_lst wA_pa) (wA_mono (ha S V H σ Γ _ r sl q) fun vs H1 ⟨S1, V1, dvs, r1, e1, d1, q1⟩ => ?_)
  dsimp only at q1
  split at q1
  · rename_i ds h1 h2
    have hd := dats_dq d1 h1
    refine ⟨small_line h2 (dvs_len d1), fun p hp => ?_⟩
    obtain ⟨r2, e2⟩ := r1.newOwn (o := .lst vs) (ob := .lst ds) hp ⟨rfl, vs, upd_same, hd⟩
    refine ⟨_, _, .o S1.length, r2, e1.trans e2, ⟨(p, [p], .lst ds), by rw [List.getElem?_append_right (Nat.le_refl _)]; simp, rfl⟩, ?_⟩
    have ho : obs (S1 ++ [(p, [p], Ob.lst ds)]) = obs S1 ++ [.lst ds] := by simp [obs]
    have hl : (obs S1).length = S1.length := by simp [obs]
    rw [ho, ← hl]
    exact q1
  · exact q1.elim
/-! ### places of a list, of a tuple; slices -/
def opIx : VOp := fun x y O Q => match rd O x, rd O y with
  | some (.list ds), some (.int k) => match atI ds k with
    | some e => Q (.d e) O
    | none => False
  | some (.tuple ds), some (.int k) => match atI ds k with
    | some e => Q (.d e) O
    | none => False
  | _, _ => False
theorem ixN_len {α β : Type} {xs : List α} {ys : List β} (h : xs.length = ys.length) (k : Int) : ixN xs.length k = ixN ys.length k := by rw [h]
theorem atI_dq {K : PySem.W.Frag} {V : Hp} {ds : List PyData} {vs : List L2.V} {k : Int} {d : PyData} (h : DqL K V vs ds) (e : atI ds k = some d) : ∃ v, atI vs k = some v ∧ Dq K V v d := by
  unfold atI at e ⊢
  rw [h.length]
  cases q : ixN ds.length k with
  | none => rw [q] at e; cases e
  | some j =>
    rw [q] at e
    exact h.get e
theorem ew_ix (ha : EW X R a f) (hb : EW X R b g) (hs : PlainIx b := by exact fun _ _ => rfl) : EW X R (.Subscript a b pos) (qBin opIx f g) := by
  intro S V H σ Γ Q r sl q
  refine wE_of (pe_ix wX_ix wE_pe wE_pe hs) (wE_mono (ha S V H σ Γ _ r sl q) fun v H1 ⟨S1, V1, da, r1, e1, d1, q1⟩ => ?_)
  refine wE_mono (hb S1 V1 H1 σ Γ _ r1 (sl.mono e1) q1) fun u H2 ⟨S2, V2, db, r2, e2, d2, q2⟩ => ?_
  have d1' := d1.mono e2
  unfold opIx at q2
  dsimp only at q2
  split at q2
  · rename_i ds k h1 h2
    split at q2
    · rename_i z hz
      obtain ⟨p, vs, rfl, hp, hd⟩ := rd_lst r2 d1' h1
      cases dq_int (rd_dq r2 d2 h2)
      obtain ⟨w, hw, hdw⟩ := atI_dq hd hz
      exact ⟨_, ix_list, p, vs, k, w, rfl, rfl, SqL.of hp, hw, PostE.ext (e1.trans e2) (.hd r2 hdw q2)⟩
    · exact q2.elim
  · rename_i ds k h1 h2
    split at q2
    · rename_i z hz
      obtain ⟨p, vs, rfl, hp, hd⟩ := rd_tup r2 d1' h1
      cases dq_int (rd_dq r2 d2 h2)
      obtain ⟨w, hw, hdw⟩ := atI_dq hd hz
      exact ⟨_, ix_tup, p, vs, k, w, rfl, rfl, same_seqT r2.vh hp, hw, PostE.ext (e1.trans e2) (.hd r2 hdw q2)⟩
    · exact q2.elim
  · exact q2.elim
def cutP (ds : List PyData) (lo hi : Option Int) : List PyData := (ds.drop (HT.sIx ds.length 0 lo)).take (HT.sIx ds.length ds.length hi - HT.sIx ds.length 0 lo)
theorem cut_dq {K : PySem.W.Frag} {V : Hp} {ds : List PyData} {vs : List L2.V} {lo hi : Option Int} (h : DqL K V vs ds) : DqL K V (cutV vs lo hi) (cutP ds lo hi) := by
  unfold cutV cutP
  rw [h.length]
  exact (h.drop _).take _
abbrev PTO := PEnv → List Ob → (Option Int → List Ob → Prop) → Prop
def wOp (X : Cx) (e : Option Expr) : TO := fun σ H Q => ∃ t, PO X e t ∧ t σ H Q
theorem wOp_po {e : Option Expr} : PO X e (wOp X e) := ⟨fun pins s σ H Q I ⟨t, h, q⟩ => h.run pins s σ H Q I q⟩
def OW (X : Cx) (R : Fr) (e : Option Expr) (f : PTO) : Prop := ∀ (S : List Cell) (V H : Hp) (σ : L2.St) (Γ : PEnv) (Q : Option Int → List Ob → Prop), Rep X.K R S V H → Slots X.K S V σ Γ → f Γ (obs S) Q → ∀ (P : Option Int → Hp → Prop), (∀ o S' V' H', Rep X.K R S' V' H' → Ext S V S' V' → Q o (obs S') → P o H') → wOp X e σ H P
def qNoPart : PTO := fun _ O Q => Q none O
def qPart (f : PTE) : PTO := fun Γ O Q => f Γ O fun dv O1 => match dv with
  | .d (.int i) => Q (some i) O1
  | _ => False
theorem ow_noPart : OW X R none qNoPart := fun S V H σ Γ Q r sl q P k => ⟨_, po_none, k none S V H r Ext.refl q⟩
theorem ow_part (ha : EW X R a f) : OW X R (some a) (qPart f) := by
  intro S V H σ Γ Q r sl q P k
  refine ⟨_, po_some wE_pe, wE_mono (ha S V H σ Γ _ r sl q) fun v H1 ⟨S1, V1, da, r1, e1, d1, q1⟩ => ?_⟩
  dsimp only at q1
  split at q1
  · cases d1
    exact ⟨_, rfl, k _ S1 V1 H1 r1 e1 q1⟩
  · exact q1.elim
def opSl : DV → Option Int → Option Int → List Ob → QE → Prop := fun x lo hi O Q => match rd O x with
  | some (.list ds) => Q (.d (.list (cutP ds lo hi))) O
  | some (.tuple ds) => Q (.d (.tuple (cutP ds lo hi))) O
  | _ => False
def qSl (f : PTE) (l u : PTO) : PTE := fun Γ O Q => f Γ O fun x O1 => l Γ O1 fun lo O2 => u Γ O2 fun hi O3 => opSl x lo hi O3 Q
def wSl (X : Cx) : L2.V → Option Int → Option Int → Hp → VK → Prop := fun x lo hi H Q => ∃ r, L2.SlR X r ∧ r x lo hi H Q
theorem wSl_sl : L2.SlR X (wSl X) := fun pins s σ H x v vl vu lo hi sl Q I rx hs pl pu ⟨r, hr, q⟩ => hr pins s σ H x v vl vu lo hi sl Q I rx hs pl pu q
theorem ew_slice {lo hi : Option Expr} {l u : PTO} {p2 : Pos} (ha : EW X R a f) (hl : OW X R lo l) (hh : OW X R hi u) : EW X R (.Subscript a (.Slice lo hi none p2) pos) (qSl f l u) := by
  intro S V H σ Γ Q r sl q
  refine wE_of (pe_slice wSl_sl wE_pe wOp_po wOp_po) (wE_mono (ha S V H σ Γ _ r sl q) fun v H1 ⟨S1, V1, da, r1, e1, d1, q1⟩ => ?_)
  refine hl S1 V1 H1 σ Γ _ r1 (sl.mono e1) q1 _ fun o S2 V2 H2 r2 e2 q2 => ?_
  refine hh S2 V2 H2 σ Γ _ r2 (sl.mono (e1.trans e2)) q2 _ fun o' S3 V3 H3 r3 e3 q3 => ?_
  have d3 := d1.mono (e2.trans e3)
  unfold opSl at q3
  split at q3
  · rename_i ds h1
    obtain ⟨p, vs, rfl, hp, hd⟩ := rd_lst r3 d3 h1
    refine ⟨_, sl_list, p, vs, rfl, SqL.of hp, fun w hw => ?_⟩
    exact (PostE.new r3 hw (.lst upd_same ((cut_dq hd).mono (r3.new hw).2.v)) q3).ext ((e1.trans e2).trans e3)
  · rename_i ds h1
    obtain ⟨p, vs, rfl, hp, hd⟩ := rd_tup r3 d3 h1
    refine ⟨_, sl_tupA, p, vs, rfl, same_seqT r3.vh hp, fun hw => ?_, fun _ w hw => ?_⟩
    · refine PostE.ext ((e1.trans e2).trans e3) (.hd r3 (.tup hp hd) ?_)
      have : cutP ds o o' = ds := by
        unfold cutP
        rw [hd.length] at hw
        rw [hw.1, hw.2]
        simp
      rw [this] at q3
      exact q3
    · exact (PostE.new r3 hw (.tup (SqT.of upd_same) ((cut_dq hd).mono (r3.new hw).2.v)) q3).ext ((e1.trans e2).trans e3)
  · exact q3.elim
end
end PW

namespace PW
open PySem PySem.Spec PyProof.Rows L2
/-! ### a part that runs within its own entry -/
abbrev feet (S : List Cell) : List (List Addr) := S.map (·.2.1)
abbrev Fr.here (S : List Cell) (V H : Hp) : Fr := ⟨H, feet S, V⟩
section
variable {K : PySem.W.Frag} {R : Fr} {S S' : List Cell} {V V' H H' : Hp}
theorem feet_get {i : Nat} {fs : List Addr} (h : (feet S)[i]? = some fs) : ∃ c : Cell, S[i]? = some c ∧ c.2.1 = fs := by
  rw [List.getElem?_map] at h
  cases q : S[i]? with
  | none => rw [q] at h; cases h
  | some c => rw [q] at h; exact ⟨c, rfl, Option.some.inj h⟩
theorem feet_mem {b : Addr} (h : b ∈ (feet S).flatten) : ∃ (i : Nat) (c : Cell), S[i]? = some c ∧ b ∈ c.2.1 := by
  obtain ⟨fs, h1, h2⟩ := List.mem_flatten.mp h
  obtain ⟨i, h3⟩ := List.getElem?_of_mem h1
  obtain ⟨c, h4, h5⟩ := feet_get h3
  exact ⟨i, c, h4, by rw [h5]; exact h2⟩
theorem mem_feet {i : Nat} {c : Cell} {b : Addr} (h : S[i]? = some c) (hb : b ∈ c.2.1) : b ∈ (feet S).flatten :=
  List.mem_flatten.mpr ⟨c.2.1, List.mem_map.mpr ⟨c, List.mem_of_getElem? h, rfl⟩, hb⟩
theorem Rep.sub (r : Rep K R S V H) : Rep K (.here S V H) S V H where
  v0 := Same.refl _
  vh := r.vh
  keep := fun b o _ e => e
  f0 := fun b hb => by
    obtain ⟨i, c, h1, h2⟩ := feet_mem hb
    exact (r.foot i c h1 b h2).2.1
  vnew := fun b hb => .inl hb
  own := r.own
  foot := fun i c h b hb => ⟨(r.foot i c h b hb).1, (r.foot i c h b hb).2.1, .inl ⟨c.2.1, by
    show (feet S)[i]? = _
    rw [List.getElem?_map, h]; rfl, hb⟩⟩
  sep := r.sep
/-- an address that the entry knew, and that is none of its objects', is kept -/
theorem Rep.notin (r : Rep K R S V H) {b : Addr} {o : HO} (hb : b ∉ R.F0) (h : R.H0 b = some o) : b ∉ (feet S).flatten := fun q => by
  obtain ⟨i, c, h1, h2⟩ := feet_mem q
  rcases Fr.foot_or (r.foot i c h1 b h2).2.2 with z | z
  · exact hb z
  · rw [h] at z; cases z
theorem Rep.back (r : Rep K R S V H) (r' : Rep K (.here S V H) S' V' H') : Rep K R S' V' H' where
  v0 := r.v0.trans r'.v0
  vh := r'.vh
  keep := fun b o hb e => r'.keep b o (r.notin hb e) (r.keep b o hb e)
  f0 := fun b hb => by
    by_cases q : b ∈ (feet S).flatten
    · exact r'.f0 b q
    · have h := r.f0 b hb
      cases z : H b with
      | none => exact (h z).elim
      | some o => rw [r'.keep b o q z]; simp
  vnew := fun b hb => by
    rcases r'.vnew b hb with z | z | z
    · rcases r.vnew b z with y | y | ⟨xs, y⟩
      · exact .inl y
      · exact .inr (.inl y)
      · exact .inr (.inr ⟨xs, r'.v0 _ _ y⟩)
    · exact .inr (.inl (r.none0 z))
    · exact .inr (.inr z)
  own := r'.own
  foot := fun i c h b hb => by
    obtain ⟨h1, h2, h3⟩ := r'.foot i c h b hb
    refine ⟨h1, h2, ?_⟩
    rcases h3 with ⟨fs, e, hb'⟩ | z
    · obtain ⟨c', e1, e2⟩ := feet_get e
      exact (r.foot i c' e1 b (by rw [e2]; exact hb')).2.2
    · exact .inr (r.none0 z)
  sep := r'.sep
/-! ### some of the objects are handed to a def -/
def putC : List Cell → List Nat → List Cell → List Cell
  | S, i :: is, c :: cs => putC (S.set i c) is cs
  | S, [], cs => S ++ cs
  | S, _ :: _, [] => S
def putAll : List Ob → List Nat → List Ob → List Ob
  | S, i :: is, c :: cs => putAll (S.set i c) is cs
  | S, [], cs => S ++ cs
  | S, _ :: _, [] => S
theorem obs_putC : ∀ (is : List Nat) (S cs : List Cell), obs (putC S is cs) = putAll (obs S) is (obs cs)
  | [], S, cs => by simp [putC, putAll, obs]
  | i :: is, S, [] => by simp [putC, putAll, obs]
  | i :: is, S, c :: cs => by
    show obs (putC (S.set i c) is cs) = putAll ((obs S).set i c.2.2) is (obs cs)
    rw [obs_putC is (S.set i c) cs, obs_set]
theorem putC_get : ∀ (is : List Nat) (S cs : List Cell) (j : Nat) (c : Cell), is.Nodup → is.length ≤ cs.length → (putC S is cs)[j]? = some c →
    (j ∉ is ∧ S[j]? = some c) ∨ (∃ k : Nat, is[k]? = some j ∧ cs[k]? = some c) ∨ (S.length ≤ j ∧ cs[is.length + (j - S.length)]? = some c)
  | [], S, cs, j, c, _, _, e => by
    unfold putC at e
    by_cases hj : j < S.length
    · rw [List.getElem?_append_left hj] at e
      exact .inl ⟨by simp, e⟩
    · rw [List.getElem?_append_right (Nat.le_of_not_lt hj)] at e
      exact .inr (.inr ⟨Nat.le_of_not_lt hj, by simpa using e⟩)
  | i :: is, S, [], j, c, _, l, e => by simp at l
  | i :: is, S, d :: cs, j, c, nd, l, e => by
    unfold putC at e
    have nd' := List.nodup_cons.mp nd
    rcases putC_get is (S.set i d) cs j c nd'.2 (by simpa using l) e with ⟨h1, h2⟩ | ⟨k, h1, h2⟩ | ⟨h1, h2⟩
    · rw [List.getElem?_set] at h2
      by_cases hj : i = j
      · subst hj
        rw [if_pos rfl] at h2
        split at h2
        · cases h2
          exact .inr (.inl ⟨0, rfl, rfl⟩)
        · cases h2
      · rw [if_neg hj] at h2
        exact .inl ⟨fun z => by
          rcases List.mem_cons.mp z with z | z
          · exact hj z.symm
          · exact h1 z, h2⟩
    · exact .inr (.inl ⟨k + 1, by simpa using h1, by simpa using h2⟩)
    · rw [List.length_set] at h1 h2
      refine .inr (.inr ⟨h1, ?_⟩)
      have : (i :: is).length + (j - S.length) = (is.length + (j - S.length)) + 1 := by simp; omega
      rw [this]
      simpa using h2
theorem putC_old : ∀ (is : List Nat) (S cs : List Cell) (j : Nat) (c : Cell), S[j]? = some c → (∀ (k i : Nat) (d : Cell), is[k]? = some i → cs[k]? = some d → ∀ c' : Cell, S[i]? = some c' → d.1 = c'.1) → ∃ c', (putC S is cs)[j]? = some c' ∧ c'.1 = c.1
  | [], S, cs, j, c, e, _ => ⟨c, by unfold putC; rw [List.getElem?_append_left (List.getElem?_eq_some_iff.mp e).1]; exact e, rfl⟩
  | i :: is, S, [], j, c, e, _ => ⟨c, e, rfl⟩
  | i :: is, S, d :: cs, j, c, e, h => by
    unfold putC
    have hj : ∃ c1, (S.set i d)[j]? = some c1 ∧ c1.1 = c.1 := by
      by_cases q : i = j
      · subst q
        exact ⟨d, by rw [List.getElem?_set, if_pos rfl, if_pos (List.getElem?_eq_some_iff.mp e).1], h 0 i d rfl rfl c e⟩
      · exact ⟨c, by rw [List.getElem?_set, if_neg q]; exact e, rfl⟩
    obtain ⟨c1, e1, a1⟩ := hj
    obtain ⟨c2, e2, a2⟩ := putC_old is (S.set i d) cs j c1 e1 (fun k i' d' h1 h2 c' h3 => by
      rw [List.getElem?_set] at h3
      by_cases q : i = i'
      · subst q
        rw [if_pos rfl] at h3
        split at h3
        · rename_i hl
          cases h3
          have h4 := h 0 i d rfl rfl S[i] (List.getElem?_eq_getElem hl)
          have h5 := h (k + 1) i d' (by simpa using h1) (by simpa using h2) S[i] (List.getElem?_eq_getElem hl)
          rw [h5]; exact h4.symm
        · cases h3
      · rw [if_neg q] at h3
        exact h (k + 1) i' d' (by simpa using h1) (by simpa using h2) c' h3)
    exact ⟨c2, e2, a2.trans a1⟩
def pick (S : List Cell) (is : List Nat) : List Cell := is.map fun i => S.getD i (0, [], .dead)
theorem pick_get {is : List Nat} (h : ∀ i ∈ is, i < S.length) {k : Nat} {c : Cell} (e : (pick S is)[k]? = some c) : ∃ i, is[k]? = some i ∧ S[i]? = some c := by
  unfold pick at e
  rw [List.getElem?_map] at e
  cases q : is[k]? with
  | none => rw [q] at e; cases e
  | some i =>
    rw [q] at e
    have hi := h i (List.mem_of_getElem? q)
    have e' : S.getD i (0, [], .dead) = c := Option.some.inj e
    rw [List.getD_eq_getElem?_getD, List.getElem?_eq_getElem hi] at e'
    exact ⟨i, rfl, by rw [List.getElem?_eq_getElem hi]; exact congrArg some e'⟩
theorem get_pick {is : List Nat} {k i : Nat} {c : Cell} (h1 : is[k]? = some i) (h2 : S[i]? = some c) : (pick S is)[k]? = some c := by
  unfold pick
  rw [List.getElem?_map, h1]
  show some (S.getD i _) = some c
  rw [List.getD_eq_getElem?_getD, h2]; rfl
theorem Rep.pick (r : Rep K R S V H) {is : List Nat} (nd : is.Nodup) (hl : ∀ i ∈ is, i < S.length) : Rep K (.here (PW.pick S is) V H) (PW.pick S is) V H where
  v0 := Same.refl _
  vh := r.vh
  keep := fun b o _ e => e
  f0 := fun b hb => by
    obtain ⟨k, c, h1, h2⟩ := feet_mem hb
    obtain ⟨i, _, h3⟩ := pick_get hl h1
    exact (r.foot i c h3 b h2).2.1
  vnew := fun b hb => .inl hb
  own := fun k c h => by
    obtain ⟨i, _, h3⟩ := pick_get hl h
    exact r.own i c h3
  foot := fun k c h b hb => by
    obtain ⟨i, _, h3⟩ := pick_get hl h
    exact ⟨(r.foot i c h3 b hb).1, (r.foot i c h3 b hb).2.1, .inl ⟨c.2.1, by
      show (feet _)[k]? = _
      rw [List.getElem?_map, h]; rfl, hb⟩⟩
  sep := fun k l c c' hkl h h' => by
    obtain ⟨i, h2, h3⟩ := pick_get hl h
    obtain ⟨j, h4, h5⟩ := pick_get hl h'
    refine r.sep i j c c' (fun z => hkl ?_) h3 h5
    subst z
    have hk := (List.getElem?_eq_some_iff.mp h2)
    have hl' := (List.getElem?_eq_some_iff.mp h4)
    obtain ⟨a1, a2⟩ := hk
    obtain ⟨b1, b2⟩ := hl'
    exact (List.getElem_inj nd).mp (a2.trans b2.symm)
/-- behind the call -/
theorem Rep.unpick (r : Rep K R S V H) {is : List Nat} (nd : is.Nodup) (hl : ∀ i ∈ is, i < S.length) (hle : is.length ≤ S'.length) (r' : Rep K (.here (PW.pick S is) V H) S' V' H') (e : Ext (PW.pick S is) V S' V') :
    Rep K R (putC S is S') V' H' ∧ Ext S V (putC S is S') V' := by
  have notin : ∀ {b : Addr} {o : HO}, b ∉ R.F0 → R.H0 b = some o → b ∉ (feet (PW.pick S is)).flatten := fun {b o} hb h q => by
    obtain ⟨k, c, h1, h2⟩ := feet_mem q
    obtain ⟨i, _, h3⟩ := pick_get hl h1
    rcases Fr.foot_or (r.foot i c h3 b h2).2.2 with z | z
    · exact hb z
    · rw [h] at z; cases z
  -- a cell that was not handed over keeps its objects
  have old : ∀ {j : Nat} {c : Cell}, j ∉ is → S[j]? = some c → ∀ b ∈ c.2.1, H' b = H b ∧ b ∉ (feet (PW.pick S is)).flatten := fun {j c} hj h b hb => by
    have n : b ∉ (feet (PW.pick S is)).flatten := fun q => by
      obtain ⟨k, c', h1, h2⟩ := feet_mem q
      obtain ⟨i, h4, h3⟩ := pick_get hl h1
      exact r.sep j i c c' (fun z => hj (by rw [z]; exact List.mem_of_getElem? h4)) h h3 b hb h2
    refine ⟨?_, n⟩
    cases z : H b with
    | none => exact ((r.foot j c h b hb).2.1 z).elim
    | some o => exact r'.keep b o n z
  have new : ∀ {k : Nat} {c : Cell}, S'[k]? = some c → ∀ b ∈ c.2.1, (∃ i c', is[k]? = some i ∧ S[i]? = some c' ∧ b ∈ c'.2.1) ∨ H b = none := fun {k c} h b hb => by
    rcases (r'.foot k c h b hb).2.2 with ⟨fs, h1, h2⟩ | z
    · obtain ⟨c', h3, h4⟩ := feet_get h1
      obtain ⟨i, h5, h6⟩ := pick_get hl h3
      exact .inl ⟨i, c', h5, h6, by rw [h4]; exact h2⟩
    · exact .inr z
  have get : ∀ {j : Nat} {c : Cell}, (putC S is S')[j]? = some c → (j ∉ is ∧ S[j]? = some c) ∨ (∃ k, S'[k]? = some c ∧ (is[k]? = some j ∨ (S.length ≤ j ∧ k = is.length + (j - S.length)))) := fun {j c} h => by
    rcases putC_get is S S' j c nd hle h with q | ⟨k, h1, h2⟩ | ⟨h1, h2⟩
    · exact .inl q
    · exact .inr ⟨k, h2, .inl h1⟩
    · exact .inr ⟨_, h2, .inr ⟨h1, rfl⟩⟩
  refine ⟨⟨r.v0.trans r'.v0, r'.vh, fun b o hb h => r'.keep b o (notin hb h) (r.keep b o hb h), fun b hb => ?_, fun b hb => ?_, fun j c h => ?_, fun j c h b hb => ?_, fun i j c c' hij h h' b hb hb' => ?_⟩, ⟨e.v, fun j c h => putC_old is S S' j c h fun k i d h1 h2 c' h3 => ?_⟩⟩
  · by_cases q : b ∈ (feet (PW.pick S is)).flatten
    · exact r'.f0 b q
    · cases z : H b with
      | none => exact (r.f0 b hb z).elim
      | some o => rw [r'.keep b o q z]; simp
  · rcases r'.vnew b hb with z | z | z
    · rcases r.vnew b z with y | y | ⟨xs, y⟩
      · exact .inl y
      · exact .inr (.inl y)
      · exact .inr (.inr ⟨xs, r'.v0 _ _ y⟩)
    · exact .inr (.inl (r.none0 z))
    · exact .inr (.inr z)
  · rcases get h with ⟨h1, h2⟩ | ⟨k, h1, _⟩
    · exact (r.own j c h2).stay e.v r'.vh fun b hb => (old h1 h2 b hb).1
    · exact r'.own k c h1
  · rcases get h with ⟨h1, h2⟩ | ⟨k, h1, hk⟩
    · obtain ⟨f1, f2, f3⟩ := r.foot j c h2 b hb
      refine ⟨?_, by rw [(old h1 h2 b hb).1]; exact f2, f3⟩
      cases z : V' b with
      | none => rfl
      | some o =>
        rcases r'.vnew b (by rw [z]; simp) with y | y | ⟨xs, y⟩
        · exact (y f1).elim
        · exact (f2 y).elim
        · have y2 := r'.vh _ _ y
          rw [(old h1 h2 b hb).1] at y2
          exact ((r.own j c h2).notup b hb xs y2).elim
    · obtain ⟨f1, f2, _⟩ := r'.foot k c h1 b hb
      refine ⟨f1, f2, ?_⟩
      rcases new h1 b hb with ⟨i, c', h3, h4, h5⟩ | z
      · rcases hk with hk | ⟨hk1, hk2⟩
        · rw [hk] at h3
          cases h3
          exact (r.foot j c' h4 b h5).2.2
        · have := (List.getElem?_eq_some_iff.mp h3).1
          omega
      · exact .inr (r.none0 z)
  · have one : ∀ {i j : Nat} {c c' : Cell}, i ∉ is → S[i]? = some c → (∃ k, S'[k]? = some c' ∧ (is[k]? = some j ∨ (S.length ≤ j ∧ k = is.length + (j - S.length)))) → ∀ b ∈ c.2.1, b ∉ c'.2.1 := fun {i j c c'} hi h ⟨k, h1, _⟩ b hb hb' => by
      rcases new h1 b hb' with ⟨i', c2, h3, h4, h5⟩ | z
      · exact r.sep i i' c c2 (fun q => hi (by rw [q]; exact List.mem_of_getElem? h3)) h h4 b hb h5
      · exact (r.foot i c h b hb).2.1 z
    rcases get h with ⟨h1, h2⟩ | ⟨k, h1, hk⟩
    · rcases get h' with ⟨h3, h4⟩ | q
      · exact r.sep i j c c' hij h2 h4 b hb hb'
      · exact one h1 h2 q b hb hb'
    · rcases get h' with ⟨h3, h4⟩ | ⟨k', h3, hk'⟩
      · exact one h3 h4 ⟨k, h1, hk⟩ b hb' hb
      · refine r'.sep k k' c c' (fun z => hij ?_) h1 h3 b hb hb'
        subst z
        rcases hk with hk | ⟨hk1, hk2⟩
        · rcases hk' with hk' | ⟨hk1', hk2'⟩
          · rw [hk] at hk'; exact Option.some.inj hk'
          · have := (List.getElem?_eq_some_iff.mp hk).1
            omega
        · rcases hk' with hk' | ⟨hk1', hk2'⟩
          · have := (List.getElem?_eq_some_iff.mp hk').1
            omega
          · omega
  · obtain ⟨d', h4, h5⟩ := e.s k c' (get_pick h1 h3)
    rw [h2] at h4
    cases h4
    exact h5
end
/-! ### a def's promise, over pure data -/
abbrev PSp := List DV → List Ob → QE → Prop
def liftSp (K : PySem.W.Frag) (psp : PSp) : Sp := fun vs H Q _ => ∃ (S : List Cell) (V : Hp) (dvs : List DV) (PQ : QE), Rep K (.here S V H) S V H ∧ DVs K S V vs dvs ∧ psp dvs (obs S) PQ ∧
  ∀ v H' S' V' dv, Rep K (.here S V H) S' V' H' → Ext S V S' V' → DVat K S' V' v dv → PQ dv (obs S') → S.length ≤ S'.length → Q v H'
def oids : List DV → List Nat
  | [] => []
  | .o i :: r => i :: oids r
  | .d _ :: r => oids r
  | .x _ :: r => oids r
def ren : Nat → List DV → List DV
  | _, [] => []
  | k, .o _ :: r => .o k :: ren (k + 1) r
  | k, .d x :: r => .d x :: ren k r
  | k, .x ψ :: r => .x ψ :: ren k r
def getAll (O : List Ob) (is : List Nat) : List Ob := is.map fun i => O.getD i .dead
def backD (is : List Nat) (n : Nat) : DV → DV
  | .d x => .d x
  | .x ψ => .x ψ
  | .o k => if k < is.length then .o (is.getD k 0) else .o (n + (k - is.length))
def nodupB : List Nat → Bool
  | [] => true
  | i :: r => !r.contains i && nodupB r
theorem nodupB_ok : ∀ {is : List Nat}, nodupB is = true → is.Nodup
  | [], _ => List.nodup_nil
  | i :: r, h => by
    unfold nodupB at h
    rw [Bool.and_eq_true] at h
    exact List.nodup_cons.mpr ⟨fun z => by simp [z] at h, nodupB_ok h.2⟩
def qApp (psp : PSp) (dvs : List DV) (O : List Ob) (Q : QE) : Prop := nodupB (oids dvs) = true ∧ psp (ren 0 dvs) (getAll O (oids dvs)) fun dv O' => Q (backD (oids dvs) O.length dv) (putAll O (oids dvs) O')
section
variable {K : PySem.W.Frag} {R : Fr} {S S' : List Cell} {V V' H H' : Hp}
theorem oids_lt : ∀ {dvs : List DV} {vs : List L2.V}, DVs K S V vs dvs → ∀ i ∈ oids dvs, i < S.length
  | [], _, .nil, i, h => by cases h
  | .o j :: r, _, .cons ⟨c, h1, _⟩ h2, i, h => by
    rcases List.mem_cons.mp h with rfl | h
    · exact (List.getElem?_eq_some_iff.mp h1).1
    · exact oids_lt h2 i h
  | .d _ :: r, _, .cons _ h2, i, h => oids_lt h2 i h
  | .x _ :: r, _, .cons _ h2, i, h => oids_lt h2 i h
theorem ren_ok : ∀ {dvs : List DV} {vs : List L2.V} (pre : List Nat), DVs K S V vs dvs → DVs K (PW.pick S (pre ++ oids dvs)) V vs (ren pre.length dvs)
  | [], _, pre, .nil => .nil
  | .o j :: r, _, pre, .cons ⟨c, h1, h3⟩ h2 => by
    have ih := ren_ok (pre ++ [j]) h2
    rw [List.append_assoc, List.length_append] at ih
    refine .cons ⟨c, ?_, h3⟩ ih
    exact get_pick (i := j) (by rw [List.getElem?_append_right (Nat.le_refl _)]; simp [oids]) h1
  | .d _ :: r, _, pre, .cons h1 h2 => .cons h1 (ren_ok pre h2)
  | .x _ :: r, _, pre, .cons h1 h2 => .cons h1 (ren_ok pre h2)
theorem getAll_obs (is : List Nat) : getAll (obs S) is = obs (PW.pick S is) := by
  unfold getAll PW.pick obs
  rw [List.map_map]
  refine List.map_congr_left fun i _ => ?_
  show (S.map (·.2.2)).getD i .dead = (S.getD i (0, [], .dead)).2.2
  rw [List.getD_eq_getElem?_getD, List.getD_eq_getElem?_getD, List.getElem?_map]
  cases h : S[i]? <;> simp
theorem backD_ok {is : List Nat} {v : L2.V} (hl : ∀ i ∈ is, i < S.length) (nd : is.Nodup) (e : Ext (PW.pick S is) V S' V') (hle : is.length ≤ S'.length) : ∀ {dv : DV}, DVat K S' V' v dv → DVat K (putC S is S') V' v (backD is S.length dv)
  | .d x, h => h
  | .x ψ, h => h
  | .o k, ⟨c, h1, h2⟩ => by
    show DVat K (putC S is S') V' v (if k < is.length then .o (is.getD k 0) else .o (S.length + (k - is.length)))
    by_cases hk : k < is.length
    · rw [if_pos hk]
      have hg : is.getD k 0 = is[k] := by rw [List.getD_eq_getElem?_getD, List.getElem?_eq_getElem hk]; rfl
      have hi := hl is[k] (List.getElem_mem hk)
      obtain ⟨c2, h3, h4⟩ := e.s k S[is[k]] (get_pick (List.getElem?_eq_getElem hk) (List.getElem?_eq_getElem hi))
      rw [h1] at h3; cases h3
      obtain ⟨c3, h5, h6⟩ := putC_old is S S' is[k] S[is[k]] (List.getElem?_eq_getElem hi) fun k' i' d' q1 q2 c' q3 => by
        obtain ⟨d2, q4, q5⟩ := e.s k' c' (get_pick q1 q3)
        rw [q2] at q4; cases q4; exact q5
      rw [hg]
      exact ⟨c3, h5, by rw [h2, h6, h4]⟩
    · rw [if_neg hk]
      refine ⟨c, ?_, h2⟩
      have key : ∀ (is : List Nat) (S cs : List Cell) (m : Nat) (c : Cell), is.length ≤ cs.length → cs[is.length + m]? = some c → (putC S is cs)[S.length + m]? = some c := by
        intro is
        induction is with
        | nil =>
          intro S cs m c _ h
          unfold putC
          rw [List.getElem?_append_right (by omega)]
          have : S.length + m - S.length = m := by omega
          rw [this]; simpa using h
        | cons i is ih =>
          intro S cs m c hl h
          cases cs with
          | nil => simp at hl
          | cons d cs =>
            unfold putC
            have := ih (S.set i d) cs m c (by simpa using hl) (by
              have e : (i :: is).length + m = (is.length + m) + 1 := by simp; omega
              rw [e] at h; simpa using h)
            rw [List.length_set] at this
            exact this
      exact key is S S' (k - is.length) c hle (by rw [Nat.add_sub_cancel' (Nat.le_of_not_lt hk)]; exact h1)
/-- what a call by such a promise asks -/
theorem app_ok {psp : PSp} {dvs : List DV} {vs : List L2.V} {Q : QE} {E : XK} (r : Rep K R S V H) (d : DVs K S V vs dvs) (q : qApp psp dvs (obs S) Q) : liftSp K psp vs H (PostE K R S V Q) E := by
  obtain ⟨nd, q⟩ := q
  have nd := nodupB_ok nd
  have hl := oids_lt d
  have hd := ren_ok [] d
  refine ⟨PW.pick S (oids dvs), V, ren 0 dvs, _, r.pick nd hl, hd, by rw [← getAll_obs]; exact q, fun v H' S' V' dv r' e d' q' hs => ?_⟩
  have hle : (oids dvs).length ≤ S'.length := by
    unfold PW.pick at hs
    rw [List.length_map] at hs
    exact hs
  obtain ⟨r2, e2⟩ := r.unpick nd hl hle r' e
  refine ⟨_, _, _, r2, e2, backD_ok hl nd e hle d', ?_⟩
  rw [obs_putC]
  have : (obs S).length = S.length := List.length_map ..
  rw [this] at q'
  exact q'
end
section
variable {X : Cx} {R : Fr} {e o : Expr} {es : List Expr} {fs : PTA} {f : PTE} {pos p : Pos}
def qCall (psp : PSp) (fs : PTA) : PTE := fun Γ O Q => fs Γ O fun dvs O1 => qApp psp dvs O1 Q
theorem ew_call {k : Nat} {fa : Addr} {fd : FuncData} {ps : List Str} {psp : PSp} {x : Str} (F : FnOk X.prog X.w X.K X.mg X.base CX0 k fa fd ps (liftSp X.K psp)) (hr : Room k X.A) (hm : X.mg x = some (.ref fa)) (hk : PySem.W.keepIn X.K (.ref fa) = true) (hb : Binds X.K fd ps [])
    (ha : AW X R (e :: es) fs) (hg : Gl X x := by rfl) (hdb : (x == ("__debug__" : Str)) = false := by decide) (he : starEach (e :: es) X.env = (false, eval e X.env) :: starEach es X.env := by rfl) (hpl : (backTo pos (starEach es X.env)).any (·.1) = false := by rfl) :
    EW X R (.Call (.Name x p) (e :: es) [] pos) (qCall psp fs) := by
  intro S V H σ Γ Q r sl q
  refine wE_of (pe_call F hr hg hm hk hb .nil pass0 wA_pa hdb he hpl) (wA_mono (ha S V H σ Γ _ r sl q) fun vs H1 ⟨S1, V1, dvs, r1, e1, d1, q1⟩ => ?_)
  have h := app_ok (E := E0) r1 d1 q1
  rw [List.append_nil]
  obtain ⟨S2, V2, dvs2, PQ, h1, h2, h3, h4⟩ := h
  exact ⟨S2, V2, dvs2, PQ, h1, h2, h3, fun v H' S' V' dv a b c d g => PostE.ext e1 (h4 v H' S' V' dv a b c d g)⟩
end
/-- the end of a def: what it returns, the objects that it was handed -/
def RetN (m : Nat) (PQ : QE) : QE := fun dv O => match dv with
  | .d x => PQ (.d x) (O.take m)
  | .x ψ => PQ (.x ψ) (O.take m)
  | .o j => (j < m ∧ PQ (.o j) (O.take m)) ∨ (m ≤ j ∧ ∃ ob, O[j]? = some ob ∧ PQ (.o m) (O.take m ++ [ob])) ∨ (m ≤ j ∧ ∃ ds, O[j]? = some (.lst ds) ∧ PQ (.d (.list ds)) (O.take m))
section
variable {K : PySem.W.Frag} {R : Fr} {S S' : List Cell} {V V' H H' : Hp}
theorem Rep.sel (r : Rep K R S V H) {T : List Cell} (h : ∀ (i : Nat) (c : Cell), T[i]? = some c → ∃ j, S[j]? = some c ∧ ((i < R.Fs.length ∧ j = i) ∨ R.Fs.length ≤ j)) (inj : ∀ (i i' : Nat) (c c' : Cell) (j : Nat), T[i]? = some c → T[i']? = some c' → S[j]? = some c → S[j]? = some c' → i = i' ∨ ∀ b ∈ c.2.1, b ∉ c'.2.1) : Rep K R T V H := by
  refine ⟨r.v0, r.vh, r.keep, r.f0, r.vnew, fun i c e => ?_, fun i c e b hb => ?_, fun i i' c c' hn e e' b hb => ?_⟩
  · obtain ⟨j, h1, _⟩ := h i c e
    exact r.own j c h1
  · obtain ⟨j, h1, h2⟩ := h i c e
    obtain ⟨f1, f2, f3⟩ := r.foot j c h1 b hb
    refine ⟨f1, f2, ?_⟩
    rcases h2 with ⟨_, rfl⟩ | h2
    · exact f3
    · rcases f3 with ⟨fs, z, _⟩ | z
      · have := (List.getElem?_eq_some_iff.mp z).1
        omega
      · exact .inr z
  · obtain ⟨j, h1, _⟩ := h i c e
    obtain ⟨j', h3, _⟩ := h i' c' e'
    by_cases q : j = j'
    · subst q
      rcases inj i i' c c' j e e' h1 h3 with z | z
      · exact (hn z).elim
      · exact z b hb
    · exact r.sep j j' c c' q h1 h3 b hb
theorem Rep.take (r : Rep K R S V H) (m : Nat) : Rep K R (S.take m) V H := by
  have g : ∀ {i : Nat} {c : Cell}, (S.take m)[i]? = some c → S[i]? = some c := fun {i c} e => by
    rw [List.getElem?_take] at e
    split at e
    · exact e
    · cases e
  exact ⟨r.v0, r.vh, r.keep, r.f0, r.vnew, fun i c e => r.own i c (g e), fun i c e => r.foot i c (g e), fun i j c c' hn e e' => r.sep i j c c' hn (g e) (g e')⟩
theorem Rep.takeOne (r : Rep K R S V H) {m j : Nat} {c : Cell} (hm : R.Fs.length = m) (hj : S[j]? = some c) (hmj : m ≤ j) : Rep K R (S.take m ++ [c]) V H := by
  have hlen : m ≤ S.length := by have := (List.getElem?_eq_some_iff.mp hj).1; omega
  have g : ∀ {i : Nat} {d : Cell}, (S.take m ++ [c])[i]? = some d → (i < m ∧ S[i]? = some d) ∨ (i = m ∧ d = c) := fun {i d} e => by
    by_cases hi : i < m
    · rw [List.getElem?_append_left (by rw [List.length_take]; omega), List.getElem?_take, if_pos hi] at e
      exact .inl ⟨hi, e⟩
    · rw [List.getElem?_append_right (by rw [List.length_take]; omega)] at e
      have hl := (List.getElem?_eq_some_iff.mp e).1
      simp only [List.length_take, List.length_singleton] at hl
      have : i = m := by omega
      subst this
      have z : i - (S.take i).length = 0 := by rw [List.length_take]; omega
      rw [z] at e
      simp at e
      exact .inr ⟨rfl, e.symm⟩
  refine r.sel (fun i d e => ?_) (fun i i' d d' k e e' h h' => ?_)
  · rcases g e with ⟨h1, h2⟩ | ⟨h1, h2⟩
    · exact ⟨i, h2, .inl ⟨by omega, rfl⟩⟩
    · subst h2
      exact ⟨j, hj, .inr (by omega)⟩
  · rw [h] at h'; cases h'
    rcases g e with ⟨h1, h2⟩ | ⟨h1, h2⟩
    · rcases g e' with ⟨h3, h4⟩ | ⟨h3, h4⟩
      · by_cases q : i = i'
        · exact .inl q
        · exact .inr (r.sep i i' d d q h2 h4)
      · subst h4
        exact .inr (r.sep i j d d (by omega) h2 hj)
    · subst h2
      rcases g e' with ⟨h3, h4⟩ | ⟨h3, h4⟩
      · exact .inr (r.sep j i' d d (by omega) hj h4)
      · exact .inl (h1.trans h3.symm)
end
end PW

namespace PW
open PySem PySem.Spec PyProof.Rows L2
/-! ### statements -/
section
variable {X : Cx} {σ : L2.St} {H : Hp}
def wS (X : Cx) (st : Stmt) : TS := fun D σ H => ∀ pins s, Inv X pins σ H s → wpAny (model X.prog X.w) X.A (exec st X.env) (SP X pins D) X.xe s
theorem wS_ps {st : Stmt} : PS X st (wS X st) := ⟨fun pins s σ H D I h => h pins s I⟩
theorem wS_of {st : Stmt} {t : TS} {D : Ends} (h : PS X st t) (q : t D σ H) : wS X st D σ H := fun pins s I => h.run pins s σ H D I q
def wB (X : Cx) (sts : List Stmt) : TS := fun D σ H => ∀ pins s, Inv X pins σ H s → wpAny (model X.prog X.w) X.A (execs sts X.env) (SP X pins D) X.xe s
theorem wB_pss {sts : List Stmt} : PSs X sts (wB X sts) := ⟨fun pins s σ H D I h => h pins s I⟩
theorem wB_of {sts : List Stmt} {t : TS} {D : Ends} (h : PSs X sts t) (q : t D σ H) : wB X sts D σ H := fun pins s I => h.run pins s σ H D I q
def wG (X : Cx) (tg : Expr) : TG := fun v σ H Q => ∀ pins s u, Inv X pins σ H s → RelV v u → wpAny (model X.prog X.w) X.A (assign tg X.env u) (fun _ s' => ∃ σ' H', Inv X pins σ' H' s' ∧ Q σ' H') X.xe s
theorem wG_pg {tg : Expr} : PG X tg (wG X tg) := ⟨fun pins s σ H v u Q I r h => h pins s u I r⟩
theorem wG_of {tg : Expr} {t : TG} {v : L2.V} {Q : L2.St → Hp → Prop} (h : PG X tg t) (q : t v σ H Q) : wG X tg v σ H Q := fun pins s u I r => h.run pins s σ H v u Q I r q
theorem wG_mono {tg : Expr} {v : L2.V} {Q Q' : L2.St → Hp → Prop} (h : wG X tg v σ H Q) (k : ∀ σ H, Q σ H → Q' σ H) : wG X tg v σ H Q' := fun pins s u I r => thn (h pins s u I r) fun _ s' ⟨σ', H', I', q⟩ => ⟨σ', H', I', k _ _ q⟩
def wGs (X : Cx) (ts : List Expr) : TGs := fun vs σ H Q => ∀ pins s us, Inv X pins σ H s → Vals vs us → wpAny (model X.prog X.w) X.A (assignInOrder ((assignEach ts X.env).map (·.2)) us) (fun _ s' => ∃ σ' H', Inv X pins σ' H' s' ∧ Q σ' H') X.xe s
theorem wGs_pgs {ts : List Expr} : PGs X ts (wGs X ts) := ⟨fun pins s σ H vs us Q I r h => h pins s us I r⟩
theorem wGs_of {ts : List Expr} {t : TGs} {vs : List L2.V} {Q : L2.St → Hp → Prop} (h : PGs X ts t) (q : t vs σ H Q) : wGs X ts vs σ H Q := fun pins s us I r => h.run pins s σ H vs us Q I r q
theorem wGs_mono {ts : List Expr} {vs : List L2.V} {Q Q' : L2.St → Hp → Prop} (h : wGs X ts vs σ H Q) (k : ∀ σ H, Q σ H → Q' σ H) : wGs X ts vs σ H Q' := fun pins s us I r => thn (h pins s us I r) fun _ s' ⟨σ', H', I', q⟩ => ⟨σ', H', I', k _ _ q⟩
def wI (X : Cx) (tg iter : Expr) : TI := fun σ H P => ∃ wi, PI X tg iter wi ∧ wi σ H P
theorem wI_pi {tg iter : Expr} : PI X tg iter (wI X tg iter) := ⟨fun pins s σ H P I ⟨wi, h, q⟩ => h.run pins s σ H P I q⟩
end
abbrev QN := PEnv → List Ob → Prop
structure PEnds where
  nx : QN
  rt : QE
  bk : QN := fun _ _ => False
  ct : QN := fun _ _ => False
abbrev PTS := PEnds → PEnv → List Ob → Prop
abbrev PTG := DV → PEnv → List Ob → QN → Prop
def LiftN (K : PySem.W.Frag) (R : Fr) (S : List Cell) (V : Hp) (q : QN) : L2.St → Hp → Prop := fun σ' H' => ∃ S' V' Γ', Rep K R S' V' H' ∧ Ext S V S' V' ∧ Slots K S' V' σ' Γ' ∧ q Γ' (obs S')
/-- what is wanted behind, lifted -/
structure EndsOk (K : PySem.W.Frag) (R : Fr) (S : List Cell) (V : Hp) (PD : PEnds) (D : Ends) : Prop where
  nx : ∀ σ' H', LiftN K R S V PD.nx σ' H' → D.nx σ' H'
  rt : ∀ v H', PostE K R S V PD.rt v H' → D.rt v H'
  bk : ∀ σ' H', LiftN K R S V PD.bk σ' H' → D.bk σ' H'
  ct : ∀ σ' H', LiftN K R S V PD.ct σ' H' → D.ct σ' H'
section
variable {K : PySem.W.Frag} {R : Fr} {S S' : List Cell} {V V' : Hp}
theorem LiftN.ext {q : QN} {σ : L2.St} {H : Hp} (e : Ext S V S' V') (h : LiftN K R S' V' q σ H) : LiftN K R S V q σ H := by
  obtain ⟨S2, V2, Γ, r, e2, s, z⟩ := h
  exact ⟨S2, V2, Γ, r, e.trans e2, s, z⟩
theorem EndsOk.ext {PD : PEnds} {D : Ends} (h : EndsOk K R S V PD D) (e : Ext S V S' V') : EndsOk K R S' V' PD D :=
  ⟨fun σ H z => h.nx σ H (z.ext e), fun v H z => h.rt v H (z.ext e), fun σ H z => h.bk σ H (z.ext e), fun σ H z => h.ct σ H (z.ext e)⟩
end
def SW (X : Cx) (R : Fr) (st : Stmt) (F : PTS) : Prop := ∀ (S : List Cell) (V H : Hp) (σ : L2.St) (Γ : PEnv) (PD : PEnds) (D : Ends), Rep X.K R S V H → Slots X.K S V σ Γ → F PD Γ (obs S) → EndsOk X.K R S V PD D → wS X st D σ H
def BW (X : Cx) (R : Fr) (sts : List Stmt) (F : PTS) : Prop := ∀ (S : List Cell) (V H : Hp) (σ : L2.St) (Γ : PEnv) (PD : PEnds) (D : Ends), Rep X.K R S V H → Slots X.K S V σ Γ → F PD Γ (obs S) → EndsOk X.K R S V PD D → wB X sts D σ H
def GW (X : Cx) (R : Fr) (tg : Expr) (g : PTG) : Prop := ∀ (S : List Cell) (V H : Hp) (σ : L2.St) (Γ : PEnv) (v : L2.V) (dv : DV) (Q : QN), Rep X.K R S V H → Slots X.K S V σ Γ → DVat X.K S V v dv → g dv Γ (obs S) Q → wG X tg v σ H (LiftN X.K R S V Q)
abbrev PTGs := List PyData → PEnv → List Ob → QN → Prop
def GsW (X : Cx) (R : Fr) (tgs : List Expr) (g : PTGs) : Prop := ∀ (S : List Cell) (V H : Hp) (σ : L2.St) (Γ : PEnv) (vs : List L2.V) (ds : List PyData) (Q : QN), Rep X.K R S V H → Slots X.K S V σ Γ → DqL X.K V vs ds → g ds Γ (obs S) Q → wGs X tgs vs σ H (LiftN X.K R S V Q)
section
variable {X : Cx} {R : Fr} {st : Stmt} {rest : List Stmt} {F G : PTS} {f g : PTE} {e : Expr} {pos : Pos}
def qNext : PTS := fun PD Γ O => PD.nx Γ O
def qSeq (F G : PTS) : PTS := fun PD Γ O => F { PD with nx := G PD } Γ O
theorem bw_nil : BW X R [] qNext := fun S V H σ Γ PD D r sl q k => wB_of pss_nil (k.nx σ H ⟨S, V, Γ, r, Ext.refl, sl, q⟩)
theorem bw_cons (h1 : SW X R st F) (h2 : BW X R rest G) : BW X R (st :: rest) (qSeq F G) := by
  intro S V H σ Γ PD D r sl q k
  refine wB_of (pss_cons wS_ps wB_pss) ?_
  show wS X st { D with nx := wB X rest D } σ H
  refine h1 S V H σ Γ _ _ r sl q ⟨fun σ' H' ⟨S', V', Γ', r', e', sl', q'⟩ => ?_, k.rt, k.bk, k.ct⟩
  exact h2 S' V' H' σ' Γ' PD D r' sl' q' (k.ext e')
theorem bw_one (h1 : SW X R st F) : BW X R [st] F := fun S V H σ Γ PD D r sl q k => wB_of (pss_one wS_ps) (h1 S V H σ Γ PD D r sl q k)
theorem sw_pass : SW X R (.Pass pos) qNext := fun S V H σ Γ PD D r sl q k => wS_of ps_pass (k.nx σ H ⟨S, V, Γ, r, Ext.refl, sl, q⟩)
def qBreak : PTS := fun PD Γ O => PD.bk Γ O
def qCont : PTS := fun PD Γ O => PD.ct Γ O
theorem sw_break : SW X R (.Break pos) qBreak := fun S V H σ Γ PD D r sl q k => wS_of ps_break (k.bk σ H ⟨S, V, Γ, r, Ext.refl, sl, q⟩)
theorem sw_continue : SW X R (.Continue pos) qCont := fun S V H σ Γ PD D r sl q k => wS_of ps_continue (k.ct σ H ⟨S, V, Γ, r, Ext.refl, sl, q⟩)
theorem sw_doc {x j pos pos'} : SW X R (.Expr (.Constant (.str x) j pos) pos') qNext := fun S V H σ Γ PD D r sl q k => wS_of ps_doc (k.nx σ H ⟨S, V, Γ, r, Ext.refl, sl, q⟩)
def qDrop (f : PTE) : PTS := fun PD Γ O => f Γ O fun _ O1 => PD.nx Γ O1
theorem sw_expr (he : EW X R e f) (hs : swapsWith e none pos.line X.env = pure false := by rfl) : SW X R (.Expr e pos) (qDrop f) := by
  intro S V H σ Γ PD D r sl q k
  refine wS_of (ps_expr wE_pe hs) (wE_mono (he S V H σ Γ _ r sl q) fun v H1 ⟨S1, V1, dv, r1, e1, d1, q1⟩ => ?_)
  exact k.nx σ H1 ⟨S1, V1, Γ, r1, e1, sl.mono e1, q1⟩
def qRet (f : PTE) : PTS := fun PD Γ O => f Γ O PD.rt
theorem sw_ret (he : EW X R e f) : SW X R (.Return (some e) pos) (qRet f) := by
  intro S V H σ Γ PD D r sl q k
  exact wS_of (ps_ret wE_pe) (wE_mono (he S V H σ Γ _ r sl q) fun v H1 p => k.rt v H1 p)
def qRetN : PTS := fun PD _ O => PD.rt (.d .none) O
theorem sw_retN : SW X R (.Return none pos) qRetN := fun S V H σ Γ PD D r sl q k => wS_of ps_retN (k.rt _ H (.hd r .non q))
def qIfS (t : PTT) (F G : PTS) : PTS := fun PD Γ O => t Γ O fun b O1 => match b with
  | true => F PD Γ O1
  | false => G PD Γ O1
theorem sw_if {c : Expr} {a b : List Stmt} {t : PTT} (hc : TW X R c t) (ha : BW X R a F) (hb : BW X R b G) : SW X R (.If c a b pos) (qIfS t F G) := by
  intro S V H σ Γ PD D r sl q k
  refine wS_of (ps_if wT_pt wB_pss wB_pss) (wT_mono (hc S V H σ Γ _ r sl q) fun v H1 ⟨S1, V1, r1, e1, q1⟩ => ?_)
  cases v with
  | true =>
    rw [if_pos rfl]
    exact ha S1 V1 H1 σ Γ PD D r1 (sl.mono e1) q1 (k.ext e1)
  | false =>
    rw [if_neg Bool.false_ne_true]
    exact hb S1 V1 H1 σ Γ PD D r1 (sl.mono e1) q1 (k.ext e1)
/-! ### targets -/
def qgName (i : Nat) : PTG := fun dv Γ O Q => Q (Γ.set i (some dv)) O
theorem gw_name {i : Nat} {x : Str} (hN : X.N.Nodup) (hi : X.N[i]? = some x := by rfl) (hx : Loc X.env.scope x := by first | exact Or.inl rfl | exact Or.inr rfl) (hf : X.fn x = true ∨ X.env.scope.names.lookup x = some .local := by first | exact .inl rfl | exact .inr rfl) : GW X R (.Name x pos) (qgName i) := by
  intro S V H σ Γ v dv Q r sl d q
  exact wG_of (pg_name hN hi hx hf) ⟨S, V, Γ.set i (some dv), r, Ext.refl, sl.set i d, q⟩
def qgNil : PTGs := fun ds Γ O Q => match ds with
  | [] => Q Γ O
  | _ => False
def qgCons (g : PTG) (gs : PTGs) : PTGs := fun ds Γ O Q => match ds with
  | d :: r => g (.d d) Γ O fun Γ1 O1 => gs r Γ1 O1 Q
  | _ => False
theorem gsw_nil : GsW X R [] qgNil := by
  intro S V H σ Γ vs ds Q r sl d q
  cases d with
  | nil => exact wGs_of pgs_nil ⟨rfl, S, V, Γ, r, Ext.refl, sl, q⟩
  | cons _ _ => exact q.elim
theorem gsw_cons {t : Expr} {ts : List Expr} {g : PTG} {gs : PTGs} (h1 : GW X R t g) (h2 : GsW X R ts gs) (hs : (assignEach (t :: ts) X.env).map (·.2) = assign t X.env :: (assignEach ts X.env).map (·.2) := by rfl) : GsW X R (t :: ts) (qgCons g gs) := by
  intro S V H σ Γ vs ds Q r sl d q
  cases d with
  | nil => exact q.elim
  | cons d1 d2 =>
    refine wGs_of (pgs_cons wG_pg wGs_pgs hs) ⟨_, _, rfl, wG_mono (h1 S V H σ Γ _ (.d _) _ r sl d1 q) fun σ1 H1 ⟨S1, V1, Γ1, r1, e1, sl1, q1⟩ => ?_⟩
    exact wGs_mono (h2 S1 V1 H1 σ1 Γ1 _ _ Q r1 sl1 (d2.mono e1.v) q1) fun _ _ z => z.ext e1
/-- (a, b, ..) = a tuple, a list -/
def qgTup (n : Nat) (gs : PTGs) : PTG := fun dv Γ O Q => match dv with
  | .d (.tuple ds) => ds.length = n ∧ gs ds Γ O Q
  | .d (.list ds) => ds.length = n ∧ gs ds Γ O Q
  | _ => False
theorem gw_tup {es : List Expr} {k n : Nat} {gs : PTGs} (hc : X.calm = true) (h : GsW X R es gs) (hn : (assignEach es X.env).length = n := by rfl) (hst : (assignEach es X.env).findIdx? (·.1) = none := by rfl) : GW X R (.Tuple es k pos) (qgTup n gs) := by
  intro S V H σ Γ v dv Q r sl d q
  unfold qgTup at q
  split at q
  · cases d with
    | tup h1 h2 => exact wG_of (pg_tup hc wGs_pgs hn hst) ⟨_, _, rfl, same_seqT r.vh h1, by rw [h2.length]; exact q.1, h S V H σ Γ _ _ Q r sl h2 q.2⟩
  · cases d with
    | lst h1 h2 => exact wG_of (pg_unl hc wGs_pgs hn hst) ⟨_, _, rfl, SqL.of (r.vh _ _ h1), by rw [h2.length]; exact q.1, h S V H σ Γ _ _ Q r sl h2 q.2⟩
  · exact q.elim
def qSet (i : Nat) (f : PTE) : PTS := fun PD Γ O => f Γ O fun dv O1 => PD.nx (Γ.set i (some dv)) O1
theorem sw_set {i : Nat} {x : Str} {pos' : Pos} (hN : X.N.Nodup) (he : EW X R e f) (hi : X.N[i]? = some x := by rfl) (hx : Loc X.env.scope x := by first | exact Or.inl rfl | exact Or.inr rfl) (hs : swapsWith e (some (.Name x pos')) pos.line X.env = pure false := by rfl) (hf : X.fn x = true ∨ X.env.scope.names.lookup x = some .local := by first | exact .inl rfl | exact .inr rfl) :
    SW X R (.Assign [.Name x pos'] e pos) (qSet i f) := by
  intro S V H σ Γ PD D r sl q k
  refine wS_of (ps_set hN hi hx wE_pe hs hf) (wE_mono (he S V H σ Γ _ r sl q) fun v H1 ⟨S1, V1, dv, r1, e1, d1, q1⟩ => ?_)
  exact k.nx _ H1 ⟨S1, V1, _, r1, e1, (sl.mono e1).set i d1, q1⟩
def qAsg (f : PTE) (g : PTG) : PTS := fun PD Γ O => f Γ O fun dv O1 => g dv Γ O1 PD.nx
theorem sw_asg {tg : Expr} {g : PTG} (he : EW X R e f) (hg : GW X R tg g) (hs : swapsWithSole [tg] e pos.line X.env = pure false := by rfl) (hw : swappedStores [tg] e X.env = pure none := by rfl) (h1 : (assignEach [tg] X.env).map (·.2) = [assign tg X.env] := by rfl) :
    SW X R (.Assign [tg] e pos) (qAsg f g) := by
  intro S V H σ Γ PD D r sl q k
  refine wS_of (ps_asg wE_pe wG_pg hs hw h1) (wE_mono (he S V H σ Γ _ r sl q) fun v H1 ⟨S1, V1, dv, r1, e1, d1, q1⟩ => ?_)
  exact wG_mono (hg S1 V1 H1 σ Γ v dv _ r1 (sl.mono e1) d1 q1) fun σ2 H2 z => k.nx _ _ (z.ext e1)
/-- a, b = x, y with plain names -/
def qPar (i j : Nat) (fs : PTA) : PTS := fun PD Γ O => fs Γ O fun dvs O1 => match dvs with
  | [v, w] => PD.nx ((Γ.set i (some v)).set j (some w)) O1
  | _ => False
theorem sw_par {i j : Nat} {a b : Expr} {fs : PTA} (hc : X.calm = true) (hN : X.N.Nodup) (ha : AW X R [a, b] fs) (h : ∀ {ta : TA}, PA X [a, b] ta → PS X st (tPar i j ta)) : SW X R st (qPar i j fs) := by
  intro S V H σ Γ PD D r sl q k
  refine wS_of (h wA_pa) (wA_mono (ha S V H σ Γ _ r sl q) fun vs H1 ⟨S1, V1, dvs, r1, e1, d1, q1⟩ => ?_)
  dsimp only at q1
  split at q1
  · cases d1 with
    | cons d1 d2 => cases d2 with
      | cons d2 d3 =>
        cases d3
        exact ⟨_, _, rfl, k.nx _ H1 ⟨S1, V1, _, r1, e1, ((sl.mono e1).set i d1).set j d2, q1⟩⟩
  · exact q1.elim
/-! ### what is walked -/
structure Itm where
  xs : List DV
  ok : List Ob → Prop
def ItOk (K : PySem.W.Frag) (R : Fr) (J : It) (S0 : List Cell) (V0 : Hp) (it : Itm) : Prop := ∀ (i : Nat) (S : List Cell) (V H : Hp), Ext S0 V0 S V → Rep K R S V H → it.ok (obs S) →
  (∀ d, it.xs[i]? = some d → J.go i H ∧ ∀ x H', J.yld i H x H' → ∃ V', Rep K R S V' H' ∧ Ext S V S V' ∧ DVat K S V' x d ∧ Same H H' ∧ ∀ b, V' b ≠ none → V b ≠ none ∨ H b = none) ∧ (it.xs.length ≤ i → J.stop i H)
abbrev PTI := PEnv → List Ob → (Itm → List Ob → Prop) → Prop
def IW (X : Cx) (R : Fr) (tg iter : Expr) (w : PTI) : Prop := ∀ (S : List Cell) (V H : Hp) (σ : L2.St) (Γ : PEnv) (Q : Itm → List Ob → Prop), Rep X.K R S V H → Slots X.K S V σ Γ → w Γ (obs S) Q →
  ∀ P : It → Hp → Prop, (∀ J S' V' H' it, Rep X.K R S' V' H' → Ext S V S' V' → ItOk X.K R J S' V' it → Q it (obs S') → P J H') → wI X tg iter σ H P
def qLoop (ok : List Ob → Prop) (g : PTG) (body : PTS) (PD : PEnds) : List DV → QN
  | [] => fun Γ O => ok O ∧ PD.nx Γ O
  | d :: ds => fun Γ O => ok O ∧ g d Γ O fun Γ2 O2 => body { PD with nx := qLoop ok g body PD ds, ct := qLoop ok g body PD ds, bk := PD.nx } Γ2 O2
def qFor (w : PTI) (g : PTG) (body : PTS) : PTS := fun PD Γ O => w Γ O fun it O1 => qLoop it.ok g body PD it.xs Γ O1
theorem sw_for {tg iter : Expr} {body : List Stmt} {w : PTI} {g : PTG} {B : PTS} (hp : PassesOwn (model X.prog X.w) X.A X.env X.xe) (hc : X.calm = true) (hi : IW X R tg iter w) (hg : GW X R tg g) (hb : BW X R body B)
    (hs : ∀ x, foldedSetIterable iter X.env x = pure x := by intro _; rfl) : SW X R (.For tg iter body [] pos) (qFor w g B) := by
  intro S V H σ Γ PD D r sl q k
  refine wS_of (ps_for hp hc wI_pi wG_pg wB_pss hs) ?_
  refine hi S V H σ Γ _ r sl q _ fun J S1 V1 H1 it r1 e1 ok1 q1 => ?_
  refine ⟨fun i m σ' H' => m + i = it.xs.length ∧ LiftN X.K R S1 V1 (qLoop it.ok g B PD (it.xs.drop i)) σ' H', ⟨it.xs.length, rfl, S1, V1, Γ, r1, Ext.refl, sl.mono e1, q1⟩, ?_⟩
  rintro i m σ2 H2 ⟨hm, S2, V2, Γ2, r2, e2, sl2, q2⟩
  by_cases hlt : i < it.xs.length
  · rw [List.drop_eq_getElem_cons hlt] at q2
    obtain ⟨ok2, q2⟩ := q2
    obtain ⟨go, _⟩ := ok1 i S2 V2 H2 e2 r2 ok2
    obtain ⟨g1, g2⟩ := go _ (List.getElem?_eq_getElem hlt)
    refine .inr ⟨g1, LiftN X.K R S1 V1 (qLoop it.ok g B PD (it.xs.drop (i + 1))), fun σ' H' z => ⟨m - 1, by omega, by omega, z⟩, fun x H3 y => ?_⟩
    obtain ⟨V3, r3, e3, d3, _, _⟩ := g2 x H3 y
    refine wG_mono (hg S2 V3 H3 σ2 Γ2 x _ _ r3 (sl2.mono e3) d3 q2) fun σ4 H4 ⟨S4, V4, Γ4, r4, e4, sl4, q4⟩ => ?_
    have e14 := (e2.trans e3).trans e4
    exact hb S4 V4 H4 σ4 Γ4 _ _ r4 sl4 q4 ⟨fun σ' H' z => z.ext e14, fun v H' z => k.rt v H' (z.ext (e1.trans e14)), fun σ' H' z => k.nx σ' H' (z.ext (e1.trans e14)), fun σ' H' z => z.ext e14⟩
  · have hd : it.xs.drop i = [] := List.drop_eq_nil_of_le (Nat.le_of_not_lt hlt)
    rw [hd] at q2
    obtain ⟨ok2, q2⟩ := q2
    exact .inl ⟨(ok1 i S2 V2 H2 e2 r2 ok2).2 (Nat.le_of_not_lt hlt), k.nx σ2 H2 ⟨S2, V2, Γ2, r2, e1.trans e2, sl2, q2⟩⟩
/-! lists, ranges -/
def okOf (O : List Ob) (dv : DV) (x : PyData) : List Ob → Prop := match dv with
  | .o i => fun O' => rd O' (.o i) = some x
  | _ => fun _ => True
def qiSeq (f : PTE) : PTI := fun Γ O Q => f Γ O fun dv O1 => match rd O1 dv with
  | some (.list ds) => Q ⟨ds.map .d, okOf O1 dv (.list ds)⟩ O1
  | some (.tuple ds) => Q ⟨ds.map .d, fun _ => True⟩ O1
  | _ => False
/-- a list -/
def qiList (f : PTE) : PTI := fun Γ O Q => f Γ O fun dv O1 => match rd O1 dv with
  | some (.list ds) => Q ⟨ds.map .d, okOf O1 dv (.list ds)⟩ O1
  | _ => False
def qiTup (f : PTE) : PTI := fun Γ O Q => f Γ O fun dv O1 => match rd O1 dv with
  | some (.tuple ds) => Q ⟨ds.map .d, fun _ => True⟩ O1
  | _ => False
theorem itl_ok {K : PySem.W.Frag} {S0 : List Cell} {V0 H0 : Hp} {a : Addr} {dv : DV} {ds : List PyData} (r0 : Rep K R S0 V0 H0) (d0 : DVat K S0 V0 (.ref a) dv) (e0 : rd (obs S0) dv = some (.list ds)) : ItOk K R (Itl K a) S0 V0 ⟨ds.map .d, okOf (obs S0) dv (.list ds)⟩ := by
  intro i S V H e r ok
  have hr : rd (obs S) dv = some (.list ds) := by
    cases dv with
    | d x => exact e0
    | o j => exact ok
    | x ψ => cases e0
  obtain ⟨a', vs, ha, hv, hd⟩ := rd_lst r (d0.mono e) hr
  cases ha
  have hl := hd.length
  refine ⟨fun d hd' => ?_, fun hi => ⟨vs, SqL.of hv, by rw [hl]; simpa using hi⟩⟩
  rw [List.getElem?_map] at hd'
  cases q : ds[i]? with
  | none => rw [q] at hd'; cases hd'
  | some z =>
    rw [q] at hd'
    cases hd'
    obtain ⟨w, h1, h2⟩ := hd.get q
    refine ⟨⟨vs, w, SqL.of hv, h1⟩, fun x H' ⟨hH, hx⟩ => ?_⟩
    subst hH
    have := hx vs (SqL.of hv)
    rw [h1] at this
    cases this
    exact ⟨V, r, Ext.refl, h2, Same.refl _, fun b hb => .inl hb⟩
theorem iw_list {tg iter : Expr} (he : EW X R iter f) : IW X R tg iter (qiList f) := by
  intro S V H σ Γ Q r sl q P k
  refine ⟨_, pi_list wE_pe, wE_mono (he S V H σ Γ _ r sl q) fun v H1 ⟨S1, V1, dv, r1, e1, d1, q1⟩ => ?_⟩
  dsimp only at q1
  split at q1
  · rename_i ds h
    obtain ⟨a, vs, rfl, hv, hd⟩ := rd_lst r1 d1 h
    exact ⟨a, rfl, ⟨vs, SqL.of hv⟩, k _ S1 V1 H1 _ r1 e1 (itl_ok r1 d1 h) q1⟩
  · exact q1.elim
theorem iw_tup {tg iter : Expr} (he : EW X R iter f) : IW X R tg iter (qiTup f) := by
  intro S V H σ Γ Q r sl q P k
  refine ⟨_, pi_tup wE_pe, wE_mono (he S V H σ Γ _ r sl q) fun v H1 ⟨S1, V1, dv, r1, e1, d1, q1⟩ => ?_⟩
  dsimp only at q1
  split at q1
  · rename_i ds h
    obtain ⟨a, vs, rfl, hv, hd⟩ := rd_tup r1 d1 h
    refine ⟨a, rfl, ⟨vs, same_seqT r1.vh hv⟩, k _ S1 V1 H1 _ r1 e1 (fun i S V H e r _ => ?_) q1⟩
    have hvs := same_seqT (e.v.trans r.vh) hv
    have hl := hd.length
    refine ⟨fun d hd' => ?_, fun hi => ⟨vs, hvs, by rw [hl]; simpa using hi⟩⟩
    rw [List.getElem?_map] at hd'
    cases q : ds[i]? with
    | none => rw [q] at hd'; cases hd'
    | some z =>
      rw [q] at hd'
      cases hd'
      obtain ⟨w, h1, h2⟩ := hd.get q
      refine ⟨⟨vs, w, hvs, h1⟩, fun x H' ⟨hH, hx⟩ => ?_⟩
      subst hH
      have := hx vs hvs
      rw [h1] at this
      cases this
      exact ⟨V, r, Ext.refl, h2.mono e.v, Same.refl _, fun b hb => .inl hb⟩
  · exact q1.elim
/-- a list or a tuple, walked -/
def iSeq (K : PySem.W.Frag) (tl : TE) : TI := fun σ H P => tl σ H fun x H1 => ∃ a, x = .ref a ∧ (((∃ xs, SqL K H1 a xs) ∧ P (Itl K a) H1) ∨ ((∃ xs, SqT K H1 a xs) ∧ P (Itt K a) H1))
theorem pi_seq {tg l : Expr} {tl : TE} (hl : PE X l tl) : PI X tg l (iSeq X.K tl) := by
  refine ⟨fun pins s σ H P I h => ?_⟩
  refine thn (hl.run pins s σ H _ I h) fun v s1 ⟨x, H1, I1, r1, q1⟩ => ?_
  obtain ⟨a, e, ⟨⟨xs, hq⟩, q⟩ | ⟨⟨xs, hq⟩, q⟩⟩ := q1
  · subst e
    cases r1
    obtain ⟨its, rv, p, hz⟩ := I1.list hq
    refine wpAny_pyIter_list p.isList ?_
    refine ⟨s1.heap.objs.size, [s1.heap.objs.size], _, _, H1, rfl, I1.kept (t' := s1.toks) fun b o e => Heap.get?_push_of_some _ e, turn_list a _, ⟨_, Heap.get?_push_size _ rfl, rfl, rfl⟩, fun b hb => ?_, q⟩
    have e : b = s1.heap.objs.size := by simpa using hb
    subst e
    exact I1.fpOk (Nat.le_refl _) (I1.hok.fresh (Nat.le_refl _))
  · subst e
    cases r1
    obtain ⟨its, rv, p, hz⟩ := I1.tuple hq
    refine wpAny_pyIter_tuple (show s1.heap.IsTuple a its.toArray from p) ?_
    refine ⟨s1.heap.objs.size, [s1.heap.objs.size], _, _, H1, rfl, I1.kept (t' := s1.toks) fun b o e => Heap.get?_push_of_some _ e, turn_tuple a _, ⟨_, Heap.get?_push_size _ rfl, rfl, rfl⟩, fun b hb => ?_, q⟩
    have e : b = s1.heap.objs.size := by simpa using hb
    subst e
    exact I1.fpOk (Nat.le_refl _) (I1.hok.fresh (Nat.le_refl _))
theorem itt_ok {K : PySem.W.Frag} {S0 : List Cell} {V0 : Hp} {a : Addr} {vs : List L2.V} {ds : List PyData} (hv : SqT K V0 a vs) (hd : DqL K V0 vs ds) : ItOk K R (Itt K a) S0 V0 ⟨ds.map .d, fun _ => True⟩ := by
  intro i S V H e r _
  have hvs := same_seqT (e.v.trans r.vh) hv
  have hl := hd.length
  refine ⟨fun d hd' => ?_, fun hi => ⟨vs, hvs, by rw [hl]; simpa using hi⟩⟩
  rw [List.getElem?_map] at hd'
  cases q : ds[i]? with
  | none => rw [q] at hd'; cases hd'
  | some z =>
    rw [q] at hd'
    cases hd'
    obtain ⟨w, h1, h2⟩ := hd.get q
    refine ⟨⟨vs, w, hvs, h1⟩, fun x H' ⟨hH, hx⟩ => ?_⟩
    subst hH
    have := hx vs hvs
    rw [h1] at this
    cases this
    exact ⟨V, r, Ext.refl, h2.mono e.v, Same.refl _, fun b hb => .inl hb⟩
theorem iw_seq {tg iter : Expr} (he : EW X R iter f) : IW X R tg iter (qiSeq f) := by
  intro S V H σ Γ Q r sl q P k
  refine ⟨_, pi_seq wE_pe, wE_mono (he S V H σ Γ _ r sl q) fun v H1 ⟨S1, V1, dv, r1, e1, d1, q1⟩ => ?_⟩
  dsimp only at q1
  split at q1
  · rename_i ds h
    obtain ⟨a, vs, rfl, hv, hd⟩ := rd_lst r1 d1 h
    exact ⟨a, rfl, .inl ⟨⟨vs, SqL.of hv⟩, k _ S1 V1 H1 _ r1 e1 (itl_ok r1 d1 h) q1⟩⟩
  · rename_i ds h
    obtain ⟨a, vs, rfl, hv, hd⟩ := rd_tup r1 d1 h
    exact ⟨a, rfl, .inr ⟨⟨vs, same_seqT r1.vh hv⟩, k _ S1 V1 H1 _ r1 e1 (itt_ok hv hd) q1⟩⟩
  · exact q1.elim
def rngD (lo : Int) (n : Nat) : List DV := (List.range n).map fun (i : Nat) => DV.d (.int (lo + i))
theorem itr_ok {K : PySem.W.Frag} {S0 : List Cell} {V0 : Hp} {lo : Int} {n : Nat} : ItOk K R (Itr lo n) S0 V0 ⟨rngD lo n, fun _ => True⟩ := by
  intro i S V H e r _
  refine ⟨fun d hd => ?_, fun hi => show n ≤ i by unfold rngD at hi; simpa using hi⟩
  unfold rngD at hd
  rw [List.getElem?_map] at hd
  cases q : (List.range n)[i]? with
  | none => rw [q] at hd; cases hd
  | some z =>
    rw [q] at hd
    cases hd
    obtain ⟨h1, h2⟩ := List.getElem?_eq_some_iff.mp q
    rw [List.getElem_range] at h2
    subst h2
    refine ⟨show i < n by simpa using h1, fun x H' ⟨hH, hx⟩ => ?_⟩
    subst hH hx
    exact ⟨V, r, Ext.refl, .int _, Same.refl _, fun b hb => .inl hb⟩
def qiRange1 (fs : PTA) : PTI := fun Γ O Q => fs Γ O fun dvs O1 => match dvs with
  | [.d (.int j)] => (-(2 ^ 62) ≤ j ∧ j < 2 ^ 62) ∧ Q ⟨rngD 0 j.toNat, fun _ => True⟩ O1
  | _ => False
theorem iw_range1 {tg a : Expr} {fs : PTA} {p : Pos} (hm : X.mg "range" = none) (ha : AW X R [a] fs) (hg : Gl X "range" := by rfl) (hs : starEach [a] X.env = [(false, eval a X.env)] := by rfl) : IW X R tg (.Call (.Name "range" p) [a] [] pos) (qiRange1 fs) := by
  intro S V H σ Γ Q r sl q P k
  refine ⟨_, pi_range1 hg hm wA_pa hs, wA_mono (ha S V H σ Γ _ r sl q) fun vs H1 ⟨S1, V1, dvs, r1, e1, d1, q1⟩ => ?_⟩
  dsimp only at q1
  split at q1
  · cases d1 with
    | cons d1 d2 =>
      cases d1; cases d2
      exact ⟨_, rfl, q1.1.1, q1.1.2, k _ S1 V1 H1 _ r1 e1 itr_ok q1.2⟩
  · exact q1.elim
def qiRange2 (fs : PTA) : PTI := fun Γ O Q => fs Γ O fun dvs O1 => match dvs with
  | [.d (.int i), .d (.int j)] => (-(2 ^ 62) ≤ i ∧ i < 2 ^ 62 ∧ -(2 ^ 62) ≤ j ∧ j < 2 ^ 62) ∧ Q ⟨rngD i (j - i).toNat, fun _ => True⟩ O1
  | _ => False
theorem iw_range2 {tg a b : Expr} {fs : PTA} {p : Pos} (hm : X.mg "range" = none) (ha : AW X R [a, b] fs) (hg : Gl X "range" := by rfl) (hs : starEach [a, b] X.env = [(false, eval a X.env), (false, eval b X.env)] := by rfl) (hs2 : starEach [b] X.env = [(false, eval b X.env)] := by rfl) : IW X R tg (.Call (.Name "range" p) [a, b] [] pos) (qiRange2 fs) := by
  intro S V H σ Γ Q r sl q P k
  refine ⟨_, pi_range2 hg hm wA_pa hs hs2, wA_mono (ha S V H σ Γ _ r sl q) fun vs H1 ⟨S1, V1, dvs, r1, e1, d1, q1⟩ => ?_⟩
  dsimp only at q1
  split at q1
  · cases d1 with
    | cons d1 d2 => cases d2 with
      | cons d2 d3 =>
        cases d1; cases d2; cases d3
        exact ⟨_, _, rfl, q1.1, k _ S1 V1 H1 _ r1 e1 itr_ok q1.2⟩
  · exact q1.elim
end
end PW

namespace PW
open PySem PySem.Spec PyProof.Rows L2
section
variable {K : PySem.W.Frag} {R : Fr} {S S' : List Cell} {V V' H H' : Hp} {D : Addr} {o : HO}
/-- a thing aside: new, or changed; no object of ours, not of the view -/
theorem Rep.aside (r : Rep K R S V H) (hv : V D = none) (hf : D ∉ (feet S).flatten) (h0 : R.H0 D = none) : Rep K R S V (upd H D o) := by
  have nf : ∀ {i : Nat} {c : Cell}, S[i]? = some c → ∀ b ∈ c.2.1, b ≠ D := fun {i c} h b hb z => hf (mem_feet h (by rw [← z]; exact hb))
  refine ⟨r.v0, fun b u e => by rw [upd_ne (ne_of_none e hv)]; exact r.vh b u e, fun b u hb e => ?_, fun b hb => ?_, r.vnew, fun i c e => ?_, fun i c e b hb => ?_, r.sep⟩
  · rw [upd_ne (ne_of_none e h0)]
    exact r.keep b u hb e
  · by_cases q : b = D
    · rw [q, upd_same]; simp
    · rw [upd_ne q]; exact r.f0 b hb
  · exact (r.own i c e).stay (Same.refl _) (fun b u e => by rw [upd_ne (ne_of_none e hv)]; exact r.vh b u e) fun b hb => upd_ne (nf e b hb)
  · obtain ⟨h1, h2, h3⟩ := r.foot i c e b hb
    exact ⟨h1, by rw [upd_ne (nf e b hb)]; exact h2, h3⟩
/-- .. that is looked at from now on -/
theorem Rep.see (r : Rep K R S V H) (hd : H D = some o) (hv : V D = none) (hf : D ∉ (feet S).flatten) (h0 : R.H0 D = none) : Rep K R S (upd V D o) H ∧ Ext S V S (upd V D o) := by
  have sv : Same V (upd V D o) := fun b u e => by rw [upd_ne (ne_of_none e hv)]; exact e
  have vh : Same (upd V D o) H := fun b u e => by
    by_cases q : b = D
    · subst q; rw [upd_same] at e; cases e; exact hd
    · rw [upd_ne q] at e; exact r.vh b u e
  refine ⟨⟨r.v0.trans sv, vh, r.keep, r.f0, fun b e => ?_, fun i c e => (r.own i c e).stay sv vh fun _ _ => rfl, fun i c e b hb => ?_, r.sep⟩, ⟨sv, fun i c h => ⟨c, h, rfl⟩⟩⟩
  · by_cases q : b = D
    · rw [q]; exact .inr (.inl h0)
    · rw [upd_ne q] at e ⊢; exact r.vnew b e
  · obtain ⟨h1, h2, h3⟩ := r.foot i c e b hb
    exact ⟨by rw [upd_ne (fun z => hf (mem_feet e (by rw [← z]; exact hb)))]; exact h1, h2, h3⟩
theorem Rep.hidden (r : Rep K R S V H) (h : H D = none) : V D = none ∧ D ∉ (feet S).flatten ∧ R.H0 D = none := ⟨r.vnone h, fun q => by
  obtain ⟨i, c, h1, h2⟩ := feet_mem q
  exact (r.foot i c h1 D h2).2.1 h, r.none0 h⟩
/-- what a part leaves alone -/
theorem Rep.side (r' : Rep K (.here S V H) S' V' H') (hv : V D = none) (hf : D ∉ (feet S).flatten) (hd : H D = some o) (ho : ∀ xs, o ≠ .tup xs) : H' D = some o ∧ V' D = none ∧ D ∉ (feet S').flatten := by
  refine ⟨r'.keep D o hf hd, ?_, fun q => ?_⟩
  · cases z : V' D with
    | none => rfl
    | some u =>
      rcases r'.vnew D (by rw [z]; simp) with y | y | ⟨xs, y⟩
      · exact (y hv).elim
      · have y' : H D = none := y
        rw [hd] at y'; cases y'
      · have y2 := r'.vh _ _ y
        rw [r'.keep D o hf hd] at y2
        exact (ho xs (Option.some.inj y2)).elim
  · obtain ⟨i, c, h1, h2⟩ := feet_mem q
    rcases Fr.foot_or (r'.foot i c h1 D h2).2.2 with y | y
    · exact hf y
    · have y' : H D = none := y
      rw [hd] at y'; cases y'
end
/-! ### the slots of a comprehension -/
theorem wipe_get {σ : L2.St} : ∀ {vs : List Nat} {i : Nat}, i ∈ vs → i < σ.length → (L2.wipe σ vs)[i]? = some none
  | v :: vs, i, h, hl => by
    unfold L2.wipe
    rw [List.getElem?_set]
    by_cases q : v = i
    · subst q
      rw [if_pos rfl, if_pos (by rw [wipe_length]; exact hl)]
    · rw [if_neg q]
      rcases List.mem_cons.mp h with z | z
      · exact (q z.symm).elim
      · exact wipe_get z hl
theorem wipe_set {σ : L2.St} {vs : List Nat} {i : Nat} {x : Option L2.V} (h : i ∈ vs) : L2.wipe (σ.set i x) vs = L2.wipe σ vs := by
  apply List.ext_getElem?
  intro j
  by_cases hj : j ∈ vs
  · by_cases hl : j < σ.length
    · rw [wipe_get hj hl, wipe_get hj (by rw [List.length_set]; exact hl)]
    · rw [List.getElem?_eq_none (by rw [wipe_length, List.length_set]; omega), List.getElem?_eq_none (by rw [wipe_length]; omega)]
  · rw [wipe_out hj, wipe_out hj, List.getElem?_set_ne (fun z => hj (by rw [← z]; exact h))]
theorem wipe_wipe {σ : L2.St} {vs : List Nat} : L2.wipe (L2.wipe σ vs) vs = L2.wipe σ vs := by
  apply List.ext_getElem?
  intro j
  by_cases hj : j ∈ vs
  · by_cases hl : j < σ.length
    · rw [wipe_get hj hl, wipe_get hj (by rw [wipe_length]; exact hl)]
    · rw [List.getElem?_eq_none (by rw [wipe_length, wipe_length]; omega), List.getElem?_eq_none (by rw [wipe_length]; omega)]
  · rw [wipe_out hj]
theorem same_new' {H : Hp} {p : Addr} {o : HO} (hp : H p = none) : Same H (upd H p o) := fun b u e => by rw [upd_ne (ne_of_none e hp)]; exact e
def GC (X : Cx) (R : Fr) (ws : List Nat) (tg : Expr) (g : PTG) : Prop := ∀ (S : List Cell) (V H : Hp) (σ : L2.St) (Γ : PEnv) (v : L2.V) (dv : DV) (Q : QN), Rep X.K R S V H → Slots X.K S V σ Γ → DVat X.K S V v dv → g dv Γ (obs S) Q →
  wG X tg v σ H fun σ' H' => LiftN X.K R S V Q σ' H' ∧ L2.wipe σ' ws = L2.wipe σ ws
def GsC (X : Cx) (R : Fr) (ws : List Nat) (tgs : List Expr) (g : PTGs) : Prop := ∀ (S : List Cell) (V H : Hp) (σ : L2.St) (Γ : PEnv) (vs : List L2.V) (ds : List PyData) (Q : QN), Rep X.K R S V H → Slots X.K S V σ Γ → DqL X.K V vs ds → g ds Γ (obs S) Q →
  wGs X tgs vs σ H fun σ' H' => LiftN X.K R S V Q σ' H' ∧ L2.wipe σ' ws = L2.wipe σ ws
section
variable {X : Cx} {R : Fr} {ws : List Nat} {pos : Pos}
theorem gc_name {i : Nat} {x : Str} (hw : i ∈ ws) (hN : X.N.Nodup) (hi : X.N[i]? = some x := by rfl) (hx : Loc X.env.scope x := by first | exact Or.inl rfl | exact Or.inr rfl) (hf : X.fn x = true ∨ X.env.scope.names.lookup x = some .local := by first | exact .inl rfl | exact .inr rfl) : GC X R ws (.Name x pos) (qgName i) := by
  intro S V H σ Γ v dv Q r sl d q
  exact wG_of (pg_name hN hi hx hf) ⟨⟨S, V, Γ.set i (some dv), r, Ext.refl, sl.set i d, q⟩, wipe_set hw⟩
theorem gsc_nil : GsC X R ws [] qgNil := by
  intro S V H σ Γ vs ds Q r sl d q
  cases d with
  | nil => exact wGs_of pgs_nil ⟨rfl, ⟨S, V, Γ, r, Ext.refl, sl, q⟩, rfl⟩
  | cons _ _ => exact q.elim
theorem gsc_cons {t : Expr} {ts : List Expr} {g : PTG} {gs : PTGs} (h1 : GC X R ws t g) (h2 : GsC X R ws ts gs) (hs : (assignEach (t :: ts) X.env).map (·.2) = assign t X.env :: (assignEach ts X.env).map (·.2) := by rfl) : GsC X R ws (t :: ts) (qgCons g gs) := by
  intro S V H σ Γ vs ds Q r sl d q
  cases d with
  | nil => exact q.elim
  | cons d1 d2 =>
    refine wGs_of (pgs_cons wG_pg wGs_pgs hs) ⟨_, _, rfl, wG_mono (h1 S V H σ Γ _ (.d _) _ r sl d1 q) fun σ1 H1 ⟨⟨S1, V1, Γ1, r1, e1, sl1, q1⟩, w1⟩ => ?_⟩
    exact wGs_mono (h2 S1 V1 H1 σ1 Γ1 _ _ Q r1 sl1 (d2.mono e1.v) q1) fun _ _ ⟨z, w⟩ => ⟨z.ext e1, w.trans w1⟩
theorem gc_tup {es : List Expr} {k n : Nat} {gs : PTGs} (hc : X.calm = true) (h : GsC X R ws es gs) (hn : (assignEach es X.env).length = n := by rfl) (hst : (assignEach es X.env).findIdx? (·.1) = none := by rfl) : GC X R ws (.Tuple es k pos) (qgTup n gs) := by
  intro S V H σ Γ v dv Q r sl d q
  unfold qgTup at q
  split at q
  · cases d with
    | tup h1 h2 => exact wG_of (pg_tup hc wGs_pgs hn hst) ⟨_, _, rfl, same_seqT r.vh h1, by rw [h2.length]; exact q.1, h S V H σ Γ _ _ Q r sl h2 q.2⟩
  · cases d with
    | lst h1 h2 => exact wG_of (pg_unl hc wGs_pgs hn hst) ⟨_, _, rfl, SqL.of (r.vh _ _ h1), by rw [h2.length]; exact q.1, h S V H σ Γ _ _ Q r sl h2 q.2⟩
  · exact q.elim
/-! ### comprehensions -/
def wTs (X : Cx) (ifs : List Expr) : TT := fun σ H Q => ∃ t, PTs X ifs t ∧ t σ H Q
theorem wTs_pts {ifs : List Expr} : PTs X ifs (wTs X ifs) := ⟨fun pins s σ H Q I ⟨t, h, q⟩ => h.run pins s σ H Q I q⟩
def IfW (X : Cx) (R : Fr) (ifs : List Expr) (f : PTT) : Prop := ∀ (S : List Cell) (V H : Hp) (σ : L2.St) (Γ : PEnv) (Q : Bool → List Ob → Prop), Rep X.K R S V H → Slots X.K S V σ Γ → f Γ (obs S) Q → ∀ P : Bool → Hp → Prop, (∀ b H', PostT X.K R S V Q b H' → P b H') → wTs X ifs σ H P
def qYes : PTT := fun _ O Q => Q true O
theorem ifw_nil : IfW X R [] qYes := fun S V H σ Γ Q r sl q P k => ⟨_, pts_nil, k true H ⟨S, V, r, Ext.refl, q⟩⟩
theorem ifw_one {c : Expr} {t : PTT} (h : TW X R c t) : IfW X R [c] t := fun S V H σ Γ Q r sl q P k => ⟨_, pts_one wT_pt, wT_mono (h S V H σ Γ Q r sl q) k⟩
def qLcGo (ok : List Ob → Prop) (g : PTG) (t : PTT) (f : PTE) (Q : List PyData → List Ob → Prop) : List DV → List PyData → QN
  | [], acc => fun _ O => ok O ∧ Q acc O
  | d :: ds, acc => fun Γ O => ok O ∧ g d Γ O fun Γ1 O1 => t Γ1 O1 fun b O2 => match b with
    | true => f Γ1 O2 fun dv O3 => match dv with
      | .d x => qLcGo ok g t f Q ds (acc ++ [x]) Γ O3
      | _ => False
    | false => qLcGo ok g t f Q ds acc Γ O2
def qLc (ws : List Nat) (w : PTI) (g : PTG) (t : PTT) (f : PTE) : PTE := fun Γ O Q => w Γ O fun it O1 => it.xs.length ≤ 100000 ∧ qLcGo it.ok g t f (fun acc O2 => Q (.d (.list acc)) O2) it.xs [] (wipeG Γ ws) O1
theorem lc_read {elt tg iter : Expr} {ifs : List Expr} {scope : Scope} {own : List (Str × Nat)} {w : PTI} {g : PTG} {t : PTT} {f : PTE} (hi : IW X R tg iter w)
    (hg : ∀ (s : Shared) (H : Hp) (C : Addr) (cl : List (Str × Addr)) (fp : List Addr) (R : Fr), GC (X.blk s H scope (compEnvC scope cl C X.env) fp) R (own.map (·.2)) tg g)
    (ht : ∀ (s : Shared) (H : Hp) (C : Addr) (cl : List (Str × Addr)) (fp : List Addr) (R : Fr), IfW (X.blk s H scope (compEnvC scope cl C X.env) fp) R ifs t)
    (he : ∀ (s : Shared) (H : Hp) (C : Addr) (cl : List (Str × Addr)) (fp : List Addr) (R : Fr), EW (X.blk s H scope (compEnvC scope cl C X.env) fp) R elt f)
    {S : List Cell} {V H : Hp} {σ : L2.St} {Γ : PEnv} {Q : QE} (r : Rep X.K R S V H) (sl : Slots X.K S V σ Γ) (q : qLc (own.map (·.2)) w g t f Γ (obs S) Q) {PQ : VK} (kk : ∀ v H', PostE X.K R S V Q v H' → PQ v H') :
    tLc (wI X tg iter) (fun v σ Hh P => ∀ s H C cl fp, wG (X.blk s H scope (compEnvC scope cl C X.env) fp) tg v σ Hh P) (fun σ Hh P => ∀ s H C cl fp, wTs (X.blk s H scope (compEnvC scope cl C X.env) fp) ifs σ Hh P)
      (fun σ Hh P => ∀ s H C cl fp, wE (X.blk s H scope (compEnvC scope cl C X.env) fp) elt σ Hh P) (own.map (·.2)) σ H PQ := by
  refine hi S V H σ Γ _ r sl q _ fun J S1 V1 H1 it r1 e1 ok1 q1 => ?_
  obtain ⟨hlen, q1⟩ := q1
  intro D hD
  obtain ⟨v1, f1, h01⟩ := r1.hidden hD
  have hsl : sizeLine = 16777216 := sizeLine_eq
  -- what holds at a turn
  refine ⟨fun i m H2 => m + i = it.xs.length ∧ ∃ S2 V2 acc vs, Rep X.K R S2 V2 H2 ∧ Ext S1 V1 S2 V2 ∧ H2 D = some (.lst vs) ∧ V2 D = none ∧ D ∉ (feet S2).flatten ∧ DqL X.K V2 vs acc ∧ acc.length ≤ i ∧
    qLcGo it.ok g t f (fun acc O2 => Q (.d (.list acc)) O2) (it.xs.drop i) acc (wipeG Γ (own.map (·.2))) (obs S2), ⟨it.xs.length, rfl, S1, V1, [], [], r1.aside v1 f1 h01, Ext.refl, upd_same, v1, f1, .nil, Nat.zero_le _, by rw [List.drop_zero]; exact q1⟩, ?_⟩
  rintro i m H2 ⟨hm, S2, V2, acc, vs, r2, e2, d2, v2, f2, da, la, q2⟩
  by_cases hlt : i < it.xs.length
  · rw [List.drop_eq_getElem_cons hlt] at q2
    obtain ⟨ok2, q2⟩ := q2
    obtain ⟨go, _⟩ := ok1 i S2 V2 H2 e2 r2 ok2
    obtain ⟨g1, g2⟩ := go _ (List.getElem?_eq_getElem hlt)
    refine .inr ⟨g1, fun H3 => i + 1 ≤ it.xs.length ∧ ∃ S3 V3 acc vs, Rep X.K R S3 V3 H3 ∧ Ext S1 V1 S3 V3 ∧ H3 D = some (.lst vs) ∧ V3 D = none ∧ D ∉ (feet S3).flatten ∧ DqL X.K V3 vs acc ∧ acc.length ≤ i + 1 ∧
      qLcGo it.ok g t f (fun acc O2 => Q (.d (.list acc)) O2) (it.xs.drop (i + 1)) acc (wipeG Γ (own.map (·.2))) (obs S3), fun H' z => ⟨m - 1, by omega, by omega, z.2⟩, fun x H3 y => ?_⟩
    obtain ⟨V3, r3, e3, d3, s3, n3⟩ := g2 x H3 y
    have dD := s3 _ _ d2
    have v3 : V3 D = none := by
      cases z : V3 D with
      | none => rfl
      | some u =>
        rcases n3 D (by rw [z]; simp) with w | w
        · exact (w v2).elim
        · rw [d2] at w; cases w
    have sub := r3.sub
    intro s Hh C cl fp
    refine wG_mono (hg s Hh C cl fp _ S2 V3 H3 _ _ x _ _ sub (((sl.mono e1).mono (e2.trans e3)).wipe (own.map (·.2))) d3 q2) fun σ4 H4 ⟨⟨S4, V4, Γ4, r4, e4, sl4, q4⟩, w4⟩ => ?_
    refine ⟨by rw [w4, wipe_wipe], fun s Hh C cl fp => ht s Hh C cl fp _ S4 V4 H4 σ4 Γ4 _ r4 sl4 q4 _ fun b H5 ⟨S5, V5, r5, e5, q5⟩ => ?_⟩
    have r5' : Rep X.K (.here S2 V3 H3) S5 V5 H5 := r5
    have e25 : Ext S2 V3 S5 V5 := e4.trans e5
    cases b with
    | true =>
      rw [if_pos rfl]
      intro s Hh C cl fp
      refine wE_mono (he s Hh C cl fp _ S5 V5 H5 σ4 Γ4 _ r5 (sl4.mono e5) q5) fun u H6 ⟨S6, V6, dv, r6, e6, d6, q6⟩ => ?_
      have r6' : Rep X.K (.here S2 V3 H3) S6 V6 H6 := r6
      obtain ⟨c6, v6, f6⟩ := r6'.side v3 f2 dD (fun _ z => by cases z)
      have e26 := e25.trans e6
      dsimp only at q6
      split at q6
      · have hl := da.length
        refine ⟨vs, c6, by omega, by omega, S6, V6, _, vs ++ [u], (r3.back r6').aside v6 f6 h01, ((e2.trans e3).trans e26), upd_same, v6, f6, ((da.mono (e3.trans e26).v).append (DqL.one d6)), by simp; omega, q6⟩
      · exact q6.elim
    | false =>
      rw [if_neg Bool.false_ne_true]
      obtain ⟨c5, v5, f5⟩ := r5'.side v3 f2 dD (fun _ z => by cases z)
      exact ⟨by omega, S5, V5, acc, vs, r3.back r5', (e2.trans e3).trans e25, c5, v5, f5, da.mono (e3.trans e25).v, by omega, q5⟩
  · have hd : it.xs.drop i = [] := List.drop_eq_nil_of_le (Nat.le_of_not_lt hlt)
    rw [hd] at q2
    obtain ⟨ok2, q2⟩ := q2
    obtain ⟨r3, e3⟩ := r2.see d2 v2 f2 h01
    exact .inl ⟨(ok1 i S2 V2 H2 e2 r2 ok2).2 (Nat.le_of_not_lt hlt), kk _ _ ⟨S2, _, .d (.list acc), r3, (e1.trans e2).trans e3, .lst upd_same (da.mono e3.v), q2⟩⟩
theorem ew_lc {elt tg iter : Expr} {ifs : List Expr} {scope : Scope} {own : List (Str × Nat)} {w : PTI} {g : PTG} {t : PTT} {f : PTE} (hc : X.calm = true) (hN : X.N.Nodup) (hi : IW X R tg iter w) (ok : BlkOk X.N X.env.scope scope own)
    (hg : ∀ (s : Shared) (H : Hp) (C : Addr) (cl : List (Str × Addr)) (fp : List Addr) (R : Fr), GC (X.blk s H scope (compEnvC scope cl C X.env) fp) R (own.map (·.2)) tg g)
    (ht : ∀ (s : Shared) (H : Hp) (C : Addr) (cl : List (Str × Addr)) (fp : List Addr) (R : Fr), IfW (X.blk s H scope (compEnvC scope cl C X.env) fp) R ifs t)
    (he : ∀ (s : Shared) (H : Hp) (C : Addr) (cl : List (Str × Addr)) (fp : List Addr) (R : Fr), EW (X.blk s H scope (compEnvC scope cl C X.env) fp) R elt f) (hs : ∀ x, foldedSetIterable iter X.env x = pure x := by intro _; rfl) :
    EW X R (.ListComp elt [⟨tg, iter, ifs, 0⟩] scope pos) (qLc (own.map (·.2)) w g t f) := by
  intro S V H σ Γ Q r sl q
  refine wE_of (pe_lc (g := fun v σ Hh P => ∀ s H C cl fp, wG (X.blk s H scope (compEnvC scope cl C X.env) fp) tg v σ Hh P) (tt := fun σ Hh P => ∀ s H C cl fp, wTs (X.blk s H scope (compEnvC scope cl C X.env) fp) ifs σ Hh P)
    (te := fun σ Hh P => ∀ s H C cl fp, wE (X.blk s H scope (compEnvC scope cl C X.env) fp) elt σ Hh P) hc hN wI_pi ok (fun s H C cl fp => ⟨fun pins s' σ Hh v u P I rv h => wG_pg.run pins s' σ Hh v u P I rv (h s H C cl fp)⟩)
    (fun s H C cl fp => ⟨fun pins s' σ Hh P I h => wTs_pts.run pins s' σ Hh P I (h s H C cl fp)⟩) (fun s H C cl fp => ⟨fun pins s' σ Hh P I h => h s H C cl fp pins s' I⟩) hs) ?_
  exact lc_read hi hg ht he r sl q fun _ _ z => z
end
end PW

namespace PW
open PySem PySem.Spec PyProof.Rows L2
/-! ### a def keeps its promise -/
def startG (N : List Str) (dvs : List DV) : PEnv := dvs.map some ++ List.replicate (N.length - dvs.length) none
section
variable {K : PySem.W.Frag} {R : Fr} {S S' : List Cell} {V V' H H' : Hp}
theorem Ext.len (e : Ext S V S' V') : S.length ≤ S'.length := by
  cases h : S.length with
  | zero => omega
  | succ n =>
    obtain ⟨c', h1, _⟩ := e.s n S[n] (List.getElem?_eq_getElem (by omega))
    have := (List.getElem?_eq_some_iff.mp h1).1
    omega
theorem Ext.takeR (e : Ext S V S' V') : Ext S V (S'.take S.length) V' := ⟨e.v, fun i c h => by
  obtain ⟨c', h1, h2⟩ := e.s i c h
  exact ⟨c', by rw [List.getElem?_take, if_pos (List.getElem?_eq_some_iff.mp h).1]; exact h1, h2⟩⟩
theorem Ext.appR (e : Ext S V S' V') (T : List Cell) : Ext S V (S' ++ T) V' := ⟨e.v, fun i c h => by
  obtain ⟨c', h1, h2⟩ := e.s i c h
  exact ⟨c', by rw [List.getElem?_append_left (List.getElem?_eq_some_iff.mp h1).1]; exact h1, h2⟩⟩
theorem retn_ok {PQ : QE} {Q : VK} (k : ∀ v H' S' V' dv, Rep K (.here S V H) S' V' H' → Ext S V S' V' → DVat K S' V' v dv → PQ dv (obs S') → S.length ≤ S'.length → Q v H')
    (r : Rep K (.here S V H) S' V' H') (e : Ext S V S' V') {v : L2.V} : ∀ {dv : DV}, DVat K S' V' v dv → RetN S.length PQ dv (obs S') → Q v H'
  | .d x, d, q => k v H' (S'.take S.length) V' (.d x) (r.take _) e.takeR d (by rw [show obs (S'.take S.length) = (obs S').take S.length from List.map_take]; exact q) (by rw [List.length_take]; have := e.len; omega)
  | .x ψ, d, q => k v H' (S'.take S.length) V' (.x ψ) (r.take _) e.takeR d (by rw [show obs (S'.take S.length) = (obs S').take S.length from List.map_take]; exact q) (by rw [List.length_take]; have := e.len; omega)
  | .o j, ⟨c, h1, h2⟩, q => by
    have hl := e.len
    have ht : obs (S'.take S.length) = (obs S').take S.length := List.map_take
    have hfs : (Fr.here S V H).Fs.length = S.length := List.length_map ..
    rcases q with ⟨hj, q⟩ | ⟨hj, ob, h3, q⟩ | ⟨hj, ds, h3, q⟩
    · exact k v H' (S'.take S.length) V' (.o j) (r.take _) e.takeR ⟨c, by rw [List.getElem?_take, if_pos hj]; exact h1, h2⟩ (by rw [ht]; exact q) (by rw [List.length_take]; omega)
    · obtain ⟨c', h4, h5⟩ := obs_get h3
      rw [h1] at h4; cases h4
      refine k v H' (S'.take S.length ++ [c]) V' (.o S.length) (r.takeOne hfs h1 hj) (e.takeR.appR _) ⟨c, by rw [List.getElem?_append_right (by rw [List.length_take]; omega)]; rw [List.length_take, Nat.min_eq_left hl]; simp, h2⟩ ?_ (by rw [List.length_append, List.length_take]; omega)
      have : obs (S'.take S.length ++ [c]) = (obs S').take S.length ++ [ob] := by
        show (S'.take S.length ++ [c]).map (·.2.2) = _
        rw [List.map_append, List.map_take, List.map_cons, List.map_nil, h5]
      rw [this]; exact q
    · obtain ⟨c', h4, h5⟩ := obs_get h3
      rw [h1] at h4; cases h4
      have ho := r.own j c h1
      rw [h5] at ho
      obtain ⟨hf, xs, ha, hd⟩ := ho
      obtain ⟨a, fs, ob⟩ := c
      dsimp only at hf h5 ha h2
      subst hf h5
      have h0 : (Fr.here S V H).H0 a = none := by
        rcases (r.foot j _ h1 a (List.mem_singleton_self a)).2.2 with ⟨fs, z, _⟩ | z
        · have := (List.getElem?_eq_some_iff.mp z).1
          omega
        · exact z
      obtain ⟨r2, e2⟩ := r.freeze h1 ha h0
      have hs : (S'.set j (a, [], .dead)).take S.length = S'.take S.length := by rw [List.take_set_of_le hj]
      have e3 := (e.trans e2).takeR
      rw [hs] at e3
      refine k v H' (S'.take S.length) _ (.d (.list ds)) (by have := r2.take S.length; rw [hs] at this; exact this) e3 ?_ (by rw [ht]; exact q) (by rw [List.length_take]; omega)
      rw [h2]
      exact .lst upd_same (hd.mono e2.v)
theorem slots_start {N : List Str} {vs : List L2.V} {dvs : List DV} (d : DVs K S V vs dvs) : Slots K S V (L2.start N vs) (startG N dvs) := by
  have hl := dvs_len d
  refine ⟨by unfold L2.start startG; simp [hl], fun i dv h => ?_⟩
  unfold startG at h
  unfold L2.start
  by_cases hi : i < dvs.length
  · rw [List.getElem?_append_left (by rw [List.length_map]; exact hi), List.getElem?_map, List.getElem?_eq_getElem hi] at h
    have h' : dvs[i] = dv := by simpa using h
    have get : ∀ {vs : List L2.V} {dvs : List DV} {i : Nat} {dv : DV}, DVs K S V vs dvs → dvs[i]? = some dv → ∃ v, vs[i]? = some v ∧ DVat K S V v dv := by
      intro vs dvs i dv d
      induction d generalizing i with
      | nil => intro h; simp at h
      | cons h1 h2 ih =>
        intro h
        cases i with
        | zero => simp at h; subst h; exact ⟨_, rfl, h1⟩
        | succ i => exact ih (by simpa using h)
    obtain ⟨v, e1, e2⟩ := get d (List.getElem?_eq_getElem hi)
    rw [h'] at e2
    exact ⟨v, by rw [List.getElem?_append_left (by rw [List.length_map]; omega), List.getElem?_map, e1]; rfl, e2⟩
  · rw [List.getElem?_append_right (by rw [List.length_map]; omega)] at h
    have := List.mem_of_getElem? h
    rw [List.mem_replicate] at this
    cases this.2
end
section
variable {P : Program} {w : World} {K : PySem.W.Frag} {mg : Str → Option Value} {base : Heap}
theorem fnP {x qual : Str} {st : Stmt} {f : Addr} {fd : FuncData} {N ps : List Str} {k : Nat} {psp : PSp} {F : PTS} (Fn : Fun K x qual st f fd) (Sc : FnScope N ps (defScope st))
    (body : ∀ (cdv : Value) (A : Around) (outer : List Env) (s : Shared) (H : Hp) (E : XK), Room k (A.deeper (envOfC qual (defScope st) s.heap.objs.size f cdv)) → ∀ R : Fr, BW (cxOf CX0 P w K mg base N qual (defScope st) f cdv A outer s H E).nox R (defBody st) F)
    (h : ∀ dvs O PQ, psp dvs O PQ → dvs.length = ps.length ∧ F { nx := fun _ O' => RetN O.length PQ (.d .none) O', rt := RetN O.length PQ } (startG N dvs) O) : FnOk P w K mg base CX0 (k + 1) f fd ps (liftSp K psp) := by
  refine Fn.ok Sc (fun vs H Q E q => ?_) (fun cdv A outer s H vs Q E hr q => ?_)
  · obtain ⟨S, V, dvs, PQ, r, d, q, _⟩ := q
    rw [dvs_len d]
    exact (h dvs _ PQ q).1
  · obtain ⟨S, V, dvs, PQ, r, d, q, k⟩ := q
    have hq := (h dvs _ PQ q).2
    have hl : (obs S).length = S.length := List.length_map ..
    rw [hl] at hq
    refine ⟨_, wB_pss, body cdv A outer s H E hr (.here S V H) S V H _ _ _ _ r (slots_start d) hq ⟨fun σ' H' ⟨S', V', Γ', r', e', sl', q'⟩ => ?_, fun v H' ⟨S', V', dv, r', e', d', q'⟩ => ?_, fun σ' H' ⟨S', V', Γ', r', e', sl', q'⟩ => q'.elim, fun σ' H' ⟨S', V', Γ', r', e', sl', q'⟩ => q'.elim⟩⟩
    · exact retn_ok k r' e' (dv := .d .none) .non q'
    · exact retn_ok k r' e' d' q'
end
/-! ### built-ins -/
section
variable {X : Cx} {R : Fr} {e e2 a b : Expr} {es : List Expr} {fs : PTA} {f g : PTE} {pos p : Pos}
/-- a built-in of pure data that gives one value -/
def BW1 (X : Cx) (R : Fr) (c : Value) (op : List DV → List Ob → QE → Prop) : Prop := ∀ (S : List Cell) (V H : Hp) (vs : List L2.V) (dvs : List DV) (Q : QE), Rep X.K R S V H → DVs X.K S V vs dvs → op dvs (obs S) Q → wC X c vs H (PostE X.K R S V Q)
def qBlt (op : List DV → List Ob → QE → Prop) (fs : PTA) : PTE := fun Γ O Q => fs Γ O fun dvs O1 => op dvs O1 Q
theorem wC_mono {c : Value} {vs : List L2.V} {H : Hp} {Q Q' : VK} (h : wC X c vs H Q) (k : ∀ v H', Q v H' → Q' v H') : wC X c vs H Q' := by
  obtain ⟨r, hr, q⟩ := h
  exact ⟨fun xs H Q => ∃ Q0, (∀ v H, Q0 v H → Q v H) ∧ r xs H Q0, fun pins s σ H xs us Q I rx ⟨Q0, h0, z⟩ => thn (hr pins s σ H xs us Q0 I rx z) fun _ _ ⟨v, H', I', r, q⟩ => ⟨v, H', I', r, h0 v H' q⟩, Q, k, q⟩
theorem ew_blt {x : Str} {id : String} {op : List DV → List Ob → QE → Prop} (hb : BW1 X R (.builtin id) op) (hm : X.mg x = none) (hv : bootBuiltins x = some (.builtin id)) (ha : AW X R (e :: es) fs) (hg : Gl X x := by rfl) (hn : x ≠ "__name__" := by decide) (hdb : (x == ("__debug__" : Str)) = false := by decide)
    (he : starEach (e :: es) X.env = (false, eval e X.env) :: starEach es X.env := by rfl) (hpl : (backTo pos (starEach es X.env)).any (·.1) = false := by rfl) : EW X R (.Call (.Name x p) (e :: es) [] pos) (qBlt op fs) := by
  intro S V H σ Γ Q r sl q
  refine wE_of (pe_callB wC_call hg hm hv wA_pa hn hdb he hpl) (wA_mono (ha S V H σ Γ _ r sl q) fun vs H1 ⟨S1, V1, dvs, r1, e1, d1, q1⟩ => ?_)
  exact wC_mono (hb S1 V1 H1 vs dvs Q r1 d1 q1) fun _ _ z => z.ext e1
theorem ew_ty {x : Str} {T : String} {op : List DV → List Ob → QE → Prop} (hb : BW1 X R (.type T) op) (hm : X.mg x = none) (hv : bootBuiltins x = some (.type T)) (ha : AW X R (e :: es) fs) (hg : Gl X x := by rfl) (hn : x ≠ "__name__" := by decide) (hdb : (x == ("__debug__" : Str)) = false := by decide)
    (he : starEach (e :: es) X.env = (false, eval e X.env) :: starEach es X.env := by rfl) (hpl : (backTo pos (starEach es X.env)).any (·.1) = false := by rfl) : EW X R (.Call (.Name x p) (e :: es) [] pos) (qBlt op fs) := by
  intro S V H σ Γ Q r sl q
  refine wE_of (pe_callTy wC_call hg hm hv wA_pa hn hdb he hpl) (wA_mono (ha S V H σ Γ _ r sl q) fun vs H1 ⟨S1, V1, dvs, r1, e1, d1, q1⟩ => ?_)
  exact wC_mono (hb S1 V1 H1 vs dvs Q r1 d1 q1) fun _ _ z => z.ext e1
def lenO (O : List Ob) (dv : DV) : Option Nat := match rd O dv with
  | some (.list ds) => some ds.length
  | some (.tuple ds) => some ds.length
  | _ => none
def oLen : List DV → List Ob → QE → Prop := fun dvs O Q => match dvs with
  | [dv] => match lenO O dv with
    | some n => Q (.d (.int n)) O
    | none => False
  | _ => False
theorem b_len : BW1 X R (.builtin "len") oLen := by
  intro S V H vs dvs Q r d q
  unfold oLen at q
  split at q
  · rename_i dv
    cases d with
    | cons d1 d2 =>
      cases d2
      split at q
      · rename_i n hn
        unfold lenO at hn
        split at hn
        · rename_i ds h
          cases hn
          obtain ⟨a, xs, rfl, hx, hd⟩ := rd_lst r d1 h
          exact ⟨_, call_len_seq, a, xs, rfl, .inl (SqL.of hx), by rw [hd.length]; exact .hd r (.int _) q⟩
        · rename_i ds h
          cases hn
          obtain ⟨a, xs, rfl, hx, hd⟩ := rd_tup r d1 h
          exact ⟨_, call_len_seq, a, xs, rfl, .inr (same_seqT r.vh hx), by rw [hd.length]; exact .hd r (.int _) q⟩
        · cases hn
      · exact q.elim
  · exact q.elim
def oInt : List DV → List Ob → QE → Prop := fun dvs O Q => match dvs with
  | [.d (.int i)] => Q (.d (.int i)) O
  | [.d (.bool k)] => Q (.d (.int (if k then 1 else 0))) O
  | _ => False
theorem b_int : BW1 X R (.type "int") oInt := by
  intro S V H vs dvs Q r d q
  unfold oInt at q
  split at q
  · cases d with
    | cons d1 d2 => cases d1; cases d2; exact ⟨_, call_int1, .inl ⟨_, rfl, .hd r (.int _) q⟩⟩
  · cases d with
    | cons d1 d2 => cases d1; cases d2; exact ⟨_, call_int1, .inr ⟨_, rfl, .hd r (.int _) q⟩⟩
  · exact q.elim
def oMin2 : List DV → List Ob → QE → Prop := fun dvs O Q => match dvs with
  | [.d (.int i), .d (.int j)] => Q (.d (.int (if j < i then j else i))) O
  | _ => False
def oMax2 : List DV → List Ob → QE → Prop := fun dvs O Q => match dvs with
  | [.d (.int i), .d (.int j)] => Q (.d (.int (if j > i then j else i))) O
  | _ => False
theorem b_min2 (hc : X.calm = true) : BW1 X R (.builtin "min") oMin2 := by
  intro S V H vs dvs Q r d q
  unfold oMin2 at q
  split at q
  · cases d with
    | cons d1 d2 => cases d2 with
      | cons d2 d3 => cases d1; cases d2; cases d3; exact ⟨_, call_min2 hc, _, _, rfl, .hd r (.int _) q⟩
  · exact q.elim
theorem b_max2 (hc : X.calm = true) : BW1 X R (.builtin "max") oMax2 := by
  intro S V H vs dvs Q r d q
  unfold oMax2 at q
  split at q
  · cases d with
    | cons d1 d2 => cases d2 with
      | cons d2 d3 => cases d1; cases d2; cases d3; exact ⟨_, call_max2 hc, _, _, rfl, .hd r (.int _) q⟩
  · exact q.elim
def intsOf : List PyData → Option (List Int)
  | [] => some []
  | .int i :: r => match intsOf r with
    | some is => some (i :: is)
    | none => none
  | _ :: _ => none
theorem intsOf_eq : ∀ {ds : List PyData} {is : List Int}, intsOf ds = some is → ds = is.map .int
  | [], is, h => by cases h; rfl
  | .int i :: r, is, h => by
    unfold intsOf at h
    split at h
    · rename_i js hj
      cases h
      rw [List.map_cons, ← intsOf_eq hj]
    · cases h
  | .none :: _, _, h => by cases h
  | .bool _ :: _, _, h => by cases h
  | .str _ :: _, _, h => by cases h
  | .list _ :: _, _, h => by cases h
  | .tuple _ :: _, _, h => by cases h
  | .dict _ :: _, _, h => by cases h
theorem intsOf_map (is : List Int) : intsOf (is.map .int) = some is := by
  induction is with
  | nil => rfl
  | cons i is ih => rw [List.map_cons]; unfold intsOf; rw [ih]
theorem dqL_ints {K : PySem.W.Frag} {V : Hp} : ∀ {is : List Int} {vs : List L2.V}, DqL K V vs (is.map .int) → vs = is.map .int
  | [], _, h => by cases h; rfl
  | i :: is, _, h => by
    cases h with
    | cons h1 h2 => cases h1; rw [List.map_cons, ← dqL_ints h2]
def sortI (is : List Int) : List Int := is.mergeSort fun x y => decide (x ≤ y)
def oSortI : List DV → List Ob → QE → Prop := fun dvs O Q => match dvs with
  | [dv] => match rd O dv with
    | some (.list ds) => match intsOf ds with
      | some is => Q (.d (.list ((sortI is).map .int))) O
      | none => False
    | _ => False
  | _ => False
theorem b_sortI : BW1 X R (.builtin "sorted") oSortI := by
  intro S V H vs dvs Q r d q
  unfold oSortI at q
  split at q
  · cases d with
    | cons d1 d2 =>
      cases d2
      split at q
      · rename_i ds h
        split at q
        · rename_i is hi
          have he := intsOf_eq hi
          subst he
          obtain ⟨a, xs, rfl, hx, hd⟩ := rd_lst r d1 h
          have hxs := dqL_ints hd
          subst hxs
          refine ⟨_, cr_sortedI, a, is, rfl, SqL.of hx, fun ns' p hp ho hn => ?_⟩
          have := PySem.W.os_sorted_mergeSort hp ho
          have e' : ns' = sortI is := this
          subst e'
          exact .new r hn (.lst upd_same (DqL.ints _)) q
        · exact q.elim
      · exact q.elim
  · exact q.elim
def boolsOf : List PyData → Option (List Bool)
  | [] => some []
  | .bool i :: r => match boolsOf r with
    | some is => some (i :: is)
    | none => none
  | _ :: _ => none
theorem boolsOf_eq : ∀ {ds : List PyData} {is : List Bool}, boolsOf ds = some is → ds = is.map .bool
  | [], is, h => by cases h; rfl
  | .bool i :: r, is, h => by
    unfold boolsOf at h
    split at h
    · rename_i js hj
      cases h
      rw [List.map_cons, ← boolsOf_eq hj]
    · cases h
  | .none :: _, _, h => by cases h
  | .int _ :: _, _, h => by cases h
  | .str _ :: _, _, h => by cases h
  | .list _ :: _, _, h => by cases h
  | .tuple _ :: _, _, h => by cases h
  | .dict _ :: _, _, h => by cases h
theorem boolsOf_map (is : List Bool) : boolsOf (is.map .bool) = some is := by
  induction is with
  | nil => rfl
  | cons i is ih => rw [List.map_cons]; unfold boolsOf; rw [ih]
theorem dqL_bools {K : PySem.W.Frag} {V : Hp} : ∀ {is : List Bool} {vs : List L2.V}, DqL K V vs (is.map .bool) → vs = is.map .bl
  | [], _, h => by cases h; rfl
  | i :: is, _, h => by
    cases h with
    | cons h1 h2 => cases h1; rw [List.map_cons, ← dqL_bools h2]
def oAnyAll (k : List Bool → Bool) : List DV → List Ob → QE → Prop := fun dvs O Q => match dvs with
  | [dv] => match rd O dv with
    | some (.list ds) => match boolsOf ds with
      | some is => Q (.d (.bool (k is))) O
      | none => False
    | _ => False
  | _ => False
theorem b_all (hc : X.calm = true) : BW1 X R (.builtin "all") (oAnyAll fun bs => bs.all id) := by
  intro S V H vs dvs Q r d q
  unfold oAnyAll at q
  split at q
  · cases d with
    | cons d1 d2 =>
      cases d2
      split at q
      · rename_i ds h
        split at q
        · rename_i is hi
          have he := boolsOf_eq hi
          subst he
          obtain ⟨a, xs, rfl, hx, hd⟩ := rd_lst r d1 h
          have hxs := dqL_bools hd
          subst hxs
          exact ⟨_, cr_all hc, a, is, rfl, SqL.of hx, .hd r (.bl _) q⟩
        · exact q.elim
      · exact q.elim
  · exact q.elim
theorem b_any (hc : X.calm = true) : BW1 X R (.builtin "any") (oAnyAll fun bs => bs.any id) := by
  intro S V H vs dvs Q r d q
  unfold oAnyAll at q
  split at q
  · cases d with
    | cons d1 d2 =>
      cases d2
      split at q
      · rename_i ds h
        split at q
        · rename_i is hi
          have he := boolsOf_eq hi
          subst he
          obtain ⟨a, xs, rfl, hx, hd⟩ := rd_lst r d1 h
          have hxs := dqL_bools hd
          subst hxs
          exact ⟨_, cr_any hc, a, is, rfl, SqL.of hx, .hd r (.bl _) q⟩
        · exact q.elim
      · exact q.elim
  · exact q.elim
/-- list(x) of a list or a tuple; tuple(x) -/
def oList : List DV → List Ob → QE → Prop := fun dvs O Q => match dvs with
  | [dv] => match rd O dv with
    | some (.list ds) => Q (.d (.list ds)) O
    | some (.tuple ds) => Q (.d (.list ds)) O
    | _ => False
  | _ => False
def oTuple : List DV → List Ob → QE → Prop := fun dvs O Q => match dvs with
  | [dv] => match rd O dv with
    | some (.list ds) => Q (.d (.tuple ds)) O
    | some (.tuple ds) => Q (.d (.tuple ds)) O
    | _ => False
  | _ => False
theorem b_list : BW1 X R (.type "list") oList := by
  intro S V H vs dvs Q r d q
  unfold oList at q
  split at q
  · cases d with
    | cons d1 d2 =>
      cases d2
      split at q
      · rename_i ds h
        obtain ⟨a, xs, rfl, hx, hd⟩ := rd_lst r d1 h
        exact ⟨_, call_list_of, a, xs, rfl, .inl (SqL.of hx), fun l hl => .new r hl (.lst upd_same (hd.mono (r.new hl).2.v)) q⟩
      · rename_i ds h
        obtain ⟨a, xs, rfl, hx, hd⟩ := rd_tup r d1 h
        exact ⟨_, call_list_of, a, xs, rfl, .inr (same_seqT r.vh hx), fun l hl => .new r hl (.lst upd_same (hd.mono (r.new hl).2.v)) q⟩
      · exact q.elim
  · exact q.elim
theorem b_tuple : BW1 X R (.type "tuple") oTuple := by
  intro S V H vs dvs Q r d q
  unfold oTuple at q
  split at q
  · cases d with
    | cons d1 d2 =>
      cases d2
      split at q
      · rename_i ds h
        obtain ⟨a, xs, rfl, hx, hd⟩ := rd_lst r d1 h
        exact ⟨_, call_tuple_of, a, xs, rfl, .inl ⟨SqL.of hx, fun l hl => .new r hl (.tup (SqT.of upd_same) (hd.mono (r.new hl).2.v)) q⟩⟩
      · rename_i ds h
        obtain ⟨a, xs, rfl, hx, hd⟩ := rd_tup r d1 h
        exact ⟨_, call_tuple_of, a, xs, rfl, .inr ⟨same_seqT r.vh hx, .hd r (.tup hx hd) q⟩⟩
      · exact q.elim
  · exact q.elim
/-! ### isinstance -/
inductive Ty | int | bool | str | list | tuple | dict
def Ty.nm : Ty → String
  | .int => "int" | .bool => "bool" | .str => "str" | .list => "list" | .tuple => "tuple" | .dict => "dict"
def tyN : PyData → String
  | .none => "NoneType" | .bool _ => "bool" | .int _ => "int" | .str _ => "str" | .list _ => "list" | .tuple _ => "tuple" | .dict _ => "dict"
def isB : Ty → PyData → Bool
  | .int, .int _ => true
  | .int, .bool _ => true
  | .bool, .bool _ => true
  | .str, .str _ => true
  | .list, .list _ => true
  | .tuple, .tuple _ => true
  | .dict, .dict _ => true
  | _, _ => false
theorem isB_ok (T : Ty) (d : PyData) : kitB (tyN d) T.nm = some (isB T d) := by
  cases T <;> cases d <;> (simp only [tyN, Ty.nm, isB]; decide +kernel)
theorem ty_dq {K : PySem.W.Frag} {V : Hp} {d : PyData} {v : L2.V} (h : Dq K V v d) : TyX K V v (.type (tyN d)) := by
  cases h with
  | non => exact .base .non
  | bl b => exact .base (.bl b)
  | int i => exact .base (.int i)
  | str x => exact .base (.str x)
  | lst h1 h2 => exact .base (.lst h1)
  | tup h1 h2 =>
    rcases h1 with (h1 | ⟨o, h1⟩) | ⟨o, its, n, h1, h2, _⟩
    · exact .base (.tup h1)
    · exact .fTuple h1
    · exact .kTuple h1 h2
def qIsi (Ts : List Ty) (f : PTE) : PTE := fun Γ O Q => f Γ O fun dv O1 => match rd O1 dv with
  | some d => Q (.d (.bool (Ts.any fun T => isB T d))) O1
  | none => False
theorem ew_isi {x : Str} {T : Ty} {px : Pos} (ha : EW X R a f) (hm : X.mg "isinstance" = none) (hx : X.mg x = none) (hv : bootBuiltins x = some (.type T.nm)) (hg : Gl X "isinstance" := by rfl) (hgx : Gl X x := by rfl) (hn : x ≠ "__name__" := by decide) (hd : (x == ("__debug__" : Str)) = false := by decide)
    (h1 : starEach [a, .Name x px] X.env = (false, eval a X.env) :: starEach [.Name x px] X.env := by rfl) (hpl : (backTo pos (starEach [.Name x px] X.env)).any (·.1) = false := by rfl) (h2 : starEach [.Name x px] X.env = (false, eval (.Name x px) X.env) :: starEach [] X.env := by rfl) :
    EW X R (.Call (.Name "isinstance" p) [a, .Name x px] [] pos) (qIsi [T] f) := by
  intro S V H σ Γ Q r sl q
  refine wE_of (pe_callB call_isi hg hm (by decide +kernel) (pa_cons wE_pe (pa_cons (pe_bltn (v := .ty T.nm) hgx hx hv rfl hn hd) pa_nil h2) h1) (by decide) (by decide) h1 hpl) (wE_mono (ha S V H σ Γ _ r sl q) fun v H1 ⟨S1, V1, dv, r1, e1, d1, q1⟩ => ?_)
  dsimp only at q1
  split at q1
  · rename_i d h
    refine ⟨v, .ty T.nm, _, _, isB T d, rfl, .ty _, ty_dq (rd_dq r1 d1 h), kit_ty (isB_ok T d), PostE.ext e1 (.hd r1 (.bl _) ?_)⟩
    have : ([T].any fun T => isB T d) = isB T d := by simp
    rw [this] at q1
    exact q1
  · exact q1.elim
/-- names of built-in types, in a tuple -/
def tTys (Ts : List Ty) : TA := fun _ H Q => Q (Ts.map fun T => .ty T.nm) H
structure TysA (X : Cx) (es : List Expr) (Ts : List Ty) : Prop where
  pa : PA X es (tTys Ts)
theorem tys_nil : TysA X [] [] := ⟨pa_nil⟩
theorem tys_cons {x : Str} {T : Ty} {Ts : List Ty} {px : Pos} (hr : TysA X es Ts) (hx : X.mg x = none) (hv : bootBuiltins x = some (.type T.nm)) (hgx : Gl X x := by rfl) (hn : x ≠ "__name__" := by decide) (hd : (x == ("__debug__" : Str)) = false := by decide)
    (hs : starEach (.Name x px :: es) X.env = (false, eval (.Name x px) X.env) :: starEach es X.env := by rfl) : TysA X (.Name x px :: es) (T :: Ts) := ⟨pa_cons (pe_bltn (v := .ty T.nm) hgx hx hv rfl hn hd) hr.pa hs⟩
theorem kitAny_ok {K : PySem.W.Frag} (d : PyData) : ∀ Ts : List Ty, PySem.W.kitAny K (.type (tyN d)) (Ts.map fun T => .type T.nm) = some (Ts.any fun T => isB T d)
  | [] => kitAny_nil
  | T :: Ts => by
    rw [List.map_cons, List.any_cons]
    refine kitAny_cons (kit_ty (isB_ok T d)) (fun h => ?_) (fun h => by rw [h]; rfl)
    rw [h, Bool.false_or]
    exact kitAny_ok d Ts
theorem tys_cls : ∀ Ts : List Ty, Paired ClsV (Ts.map fun T => L2.V.ty T.nm) (Ts.map fun T => Value.type T.nm)
  | [] => .nil
  | T :: Ts => .cons (.ty _) (tys_cls Ts)
theorem ew_isiT {Ts : List Ty} {x1} {pt : Pos} (ha : EW X R a f) (hT : TysA X es Ts) (hm : X.mg "isinstance" = none) (hlen : Ts.length ≤ 10 := by decide) (hg : Gl X "isinstance" := by rfl)
    (h1 : starEach [a, .Tuple es x1 pt] X.env = (false, eval a X.env) :: starEach [.Tuple es x1 pt] X.env := by rfl) (hpl : (backTo pos (starEach [.Tuple es x1 pt] X.env)).any (·.1) = false := by rfl) (h2 : starEach [.Tuple es x1 pt] X.env = (false, eval (.Tuple es x1 pt) X.env) :: starEach [] X.env := by rfl) :
    EW X R (.Call (.Name "isinstance" p) [a, .Tuple es x1 pt] [] pos) (qIsi Ts f) := by
  intro S V H σ Γ Q r sl q
  refine wE_of (pe_callB call_isiT hg hm (by decide +kernel) (pa_cons wE_pe (pa_cons (pe_tup hT.pa) pa_nil h2) h1) (by decide) (by decide) h1 hpl) (wE_mono (ha S V H σ Γ _ r sl q) fun v H1 ⟨S1, V1, dv, r1, e1, d1, q1⟩ => ?_)
  have hs : sizeLine = 16777216 := sizeLine_eq
  refine ⟨by rw [List.length_map]; omega, fun tp htp => ?_⟩
  dsimp only at q1
  split at q1
  · rename_i d h
    obtain ⟨v0, f0, h0⟩ := r1.hidden htp
    have r2 : Rep X.K R S1 V1 (upd H1 tp (.tup (Ts.map fun T => .ty T.nm))) := r1.aside v0 f0 h0
    exact ⟨v, tp, _, _, _, _, rfl, upd_same, tys_cls Ts, ty_dq (rd_dq r2 d1 h), kitAny_ok d Ts, PostE.ext e1 (.hd r2 (.bl _) q1)⟩
  · exact q1.elim
end
end PW

namespace PW
open PySem PySem.Spec PyProof.Rows L2
section
variable {X : Cx} {R : Fr} {e e2 a b : Expr} {es : List Expr} {fs : PTA} {f g : PTE} {pos p tpos : Pos}
/-! ### zip, enumerate -/
def okBoth (O : List Ob) (x y : DV) (p q : PyData) : List Ob → Prop := fun O' => okOf O x p O' ∧ okOf O y q O'
def zipD : List PyData → List PyData → List DV
  | x :: xs, y :: ys => .d (.tuple [x, y]) :: zipD xs ys
  | _, _ => []
theorem zipD_get : ∀ {xs ys : List PyData} {i : Nat} {d : DV}, (zipD xs ys)[i]? = some d → ∃ x y, xs[i]? = some x ∧ ys[i]? = some y ∧ d = .d (.tuple [x, y])
  | [], ys, i, d, h => by simp [zipD] at h
  | x :: xs, [], i, d, h => by simp [zipD] at h
  | x :: xs, y :: ys, 0, d, h => by
    simp [zipD] at h
    exact ⟨x, y, rfl, rfl, h.symm⟩
  | x :: xs, y :: ys, i + 1, d, h => by
    obtain ⟨x', y', h1, h2, h3⟩ := zipD_get (xs := xs) (ys := ys) (i := i) (d := d) (by simpa [zipD] using h)
    exact ⟨x', y', by simpa using h1, by simpa using h2, h3⟩
theorem zipD_len : ∀ {xs ys : List PyData}, (zipD xs ys).length = min xs.length ys.length
  | [], ys => by simp [zipD]
  | x :: xs, [] => by simp [zipD]
  | x :: xs, y :: ys => by simp [zipD, zipD_len (xs := xs) (ys := ys)]
def qiZip (fs : PTA) : PTI := fun Γ O Q => fs Γ O fun dvs O1 => match dvs with
  | [x, y] => match rd O1 x, rd O1 y with
    | some (.list xs), some (.list ys) => Q ⟨zipD xs ys, okBoth O1 x y (.list xs) (.list ys)⟩ O1
    | some (.tuple xs), some (.tuple ys) => Q ⟨zipD xs ys, fun _ => True⟩ O1
    | _, _ => False
  | _ => False
theorem rd_ok {K : PySem.W.Frag} {S0 S : List Cell} {V0 V H : Hp} {v : L2.V} {dv : DV} {ds : List PyData} (e : Ext S0 V0 S V) (r : Rep K R S V H) (d0 : DVat K S0 V0 v dv) (e0 : rd (obs S0) dv = some (.list ds)) (ok : okOf (obs S0) dv (.list ds) (obs S)) : ∃ a xs, v = .ref a ∧ H a = some (.lst xs) ∧ DqL K V xs ds := by
  refine rd_lst r (d0.mono e) ?_
  cases dv with
  | d x => exact e0
  | o j => exact ok
  | x ψ => cases e0
theorem iw_zip {elts : List Expr} {kk : Nat} (hm : X.mg "zip" = none) (ha : AW X R [e, e2] fs) (hg : Gl X "zip" := by rfl)
    (hs : starEach [e, e2] X.env = (false, eval e X.env) :: starEach [e2] X.env := by rfl) (hpl : (backTo pos (starEach [e2] X.env)).any (·.1) = false := by rfl) :
    IW X R (.Tuple elts kk tpos) (.Call (.Name "zip" p) [e, e2] [] pos) (qiZip fs) := by
  intro S V H σ Γ Q r sl q P k
  refine ⟨_, RZ.pi_zipA hg hm wA_pa hs hpl, wA_mono (ha S V H σ Γ _ r sl q) fun vs H1 ⟨S1, V1, dvs, r1, e1, d1, q1⟩ => ?_⟩
  dsimp only at q1
  split at q1
  · rename_i x y
    cases d1 with
    | cons dx d2 => cases d2 with
      | cons dy d3 =>
        cases d3
        have hnew : ∀ {S V H H' T} {u w : L2.V} {z z' : PyData}, Rep X.K R S V H → H T = none → H' = upd H T (.tup [u, w]) → Dq X.K V u z → Dq X.K V w z' → ∃ V', Rep X.K R S V' H' ∧ Ext S V S V' ∧ DVat X.K S V' (.ref T) (.d (.tuple [z, z'])) ∧ Same H H' ∧ ∀ b, V' b ≠ none → V b ≠ none ∨ H b = none := by
          intro S V H H' T u w z z' r hT hH h1 h2
          subst hH
          obtain ⟨r', e'⟩ := r.new (o := .tup [u, w]) hT
          refine ⟨_, r', e', .tup (SqT.of upd_same) (.cons (h1.mono e'.v) (.cons (h2.mono e'.v) .nil)), same_new' hT, fun b hb => ?_⟩
          by_cases q : b = T
          · rw [q]; exact .inr hT
          · rw [upd_ne q] at hb; exact .inl hb
        split at q1
        · rename_i xs ys hx hy
          obtain ⟨a, us, rfl, ha', hda⟩ := rd_lst r1 dx hx
          obtain ⟨b, ws, rfl, hb', hdb⟩ := rd_lst r1 dy hy
          refine ⟨a, b, us, ws, rfl, .inl ⟨SqL.of ha', SqL.of hb', k _ S1 V1 H1 _ r1 e1 (fun i S V H e r ok => ?_) q1⟩⟩
          obtain ⟨a', us', ea, ha2, hda2⟩ := rd_ok e r dx hx ok.1
          obtain ⟨b', ws', eb, hb2, hdb2⟩ := rd_ok e r dy hy ok.2
          cases ea; cases eb
          refine ⟨fun d hd => ?_, fun hi => ⟨us', ws', SqL.of ha2, SqL.of hb2, ?_⟩⟩
          · obtain ⟨z, z', h1, h2, rfl⟩ := zipD_get hd
            obtain ⟨u, g1, g2⟩ := hda2.get h1
            obtain ⟨w, g3, g4⟩ := hdb2.get h2
            refine ⟨⟨us', ws', u, w, SqL.of ha2, SqL.of hb2, g1, g3⟩, fun v H' ⟨T, x', y', hv, hT, hH, f1, f2⟩ => ?_⟩
            have i1 := f1 us' (SqL.of ha2)
            have i2 := f2 ws' (SqL.of hb2)
            rw [g1] at i1; rw [g3] at i2
            cases i1; cases i2
            subst hv
            exact hnew r hT hH g2 g4
          · have : (zipD xs ys).length ≤ i := hi
            rw [zipD_len] at this
            rw [hda2.length, hdb2.length]
            omega
        · rename_i xs ys hx hy
          obtain ⟨a, us, rfl, ha', hda⟩ := rd_tup r1 dx hx
          obtain ⟨b, ws, rfl, hb', hdb⟩ := rd_tup r1 dy hy
          refine ⟨a, b, us, ws, rfl, .inr ⟨same_seqT r1.vh ha', same_seqT r1.vh hb', k _ S1 V1 H1 _ r1 e1 (fun i S V H e r ok => ?_) q1⟩⟩
          have ha2 := same_seqT (e.v.trans r.vh) ha'
          have hb2 := same_seqT (e.v.trans r.vh) hb'
          refine ⟨fun d hd => ?_, fun hi => ⟨us, ws, ha2, hb2, ?_⟩⟩
          · obtain ⟨z, z', h1, h2, rfl⟩ := zipD_get hd
            obtain ⟨u, g1, g2⟩ := hda.get h1
            obtain ⟨w, g3, g4⟩ := hdb.get h2
            refine ⟨⟨us, ws, u, w, ha2, hb2, g1, g3⟩, fun v H' ⟨T, x', y', hv, hT, hH, f1, f2⟩ => ?_⟩
            have i1 := f1 us ha2
            have i2 := f2 ws hb2
            rw [g1] at i1; rw [g3] at i2
            cases i1; cases i2
            subst hv
            exact hnew r hT hH (g2.mono e.v) (g4.mono e.v)
          · have : (zipD xs ys).length ≤ i := hi
            rw [zipD_len] at this
            rw [hda.length, hdb.length]
            omega
        · exact q1.elim
  · exact q1.elim
def enumD : Nat → List PyData → List DV
  | _, [] => []
  | k, x :: xs => .d (.tuple [.int (k : Nat), x]) :: enumD (k + 1) xs
theorem enumD_get : ∀ {xs : List PyData} {k i : Nat} {d : DV}, (enumD k xs)[i]? = some d → ∃ x, xs[i]? = some x ∧ d = .d (.tuple [.int ((k + i : Nat) : Int), x])
  | [], k, i, d, h => by simp [enumD] at h
  | x :: xs, k, 0, d, h => by
    simp [enumD] at h
    exact ⟨x, rfl, h.symm⟩
  | x :: xs, k, i + 1, d, h => by
    obtain ⟨x', h1, h3⟩ := enumD_get (xs := xs) (k := k + 1) (i := i) (d := d) (by simpa [enumD] using h)
    refine ⟨x', by simpa using h1, ?_⟩
    rw [h3]
    have : k + 1 + i = k + (i + 1) := by omega
    rw [this]
theorem enumD_len : ∀ {xs : List PyData} {k : Nat}, (enumD k xs).length = xs.length
  | [], k => rfl
  | x :: xs, k => by simp [enumD, enumD_len (xs := xs)]
def qiEnum (fs : PTA) : PTI := fun Γ O Q => fs Γ O fun dvs O1 => match dvs with
  | [x] => match rd O1 x with
    | some (.list xs) => Q ⟨enumD 0 xs, okOf O1 x (.list xs)⟩ O1
    | _ => False
  | _ => False
theorem iw_enum {elts : List Expr} {kk : Nat} (hm : X.mg "enumerate" = none) (ha : AW X R [e] fs) (hg : Gl X "enumerate" := by rfl) (hs : starEach [e] X.env = [(false, eval e X.env)] := by rfl) :
    IW X R (.Tuple elts kk tpos) (.Call (.Name "enumerate" p) [e] [] pos) (qiEnum fs) := by
  intro S V H σ Γ Q r sl q P k
  refine ⟨_, pi_enum hg hm wA_pa hs, wA_mono (ha S V H σ Γ _ r sl q) fun vs H1 ⟨S1, V1, dvs, r1, e1, d1, q1⟩ => ?_⟩
  dsimp only at q1
  split at q1
  · rename_i x
    cases d1 with
    | cons dx d2 =>
      cases d2
      split at q1
      · rename_i xs hx
        obtain ⟨a, us, rfl, ha', hda⟩ := rd_lst r1 dx hx
        refine ⟨a, us, rfl, SqL.of ha', k _ S1 V1 H1 _ r1 e1 (fun i S V H e r ok => ?_) q1⟩
        obtain ⟨a', us', ea, ha2, hda2⟩ := rd_ok e r dx hx ok
        cases ea
        refine ⟨fun d hd => ?_, fun hi => ⟨us', SqL.of ha2, ?_⟩⟩
        · obtain ⟨z, h1, rfl⟩ := enumD_get hd
          obtain ⟨u, g1, g2⟩ := hda2.get h1
          refine ⟨⟨us', u, SqL.of ha2, g1⟩, fun v H' ⟨T, x', hv, hT, hH, f1⟩ => ?_⟩
          have i1 := f1 us' (SqL.of ha2)
          rw [g1] at i1
          cases i1
          subst hv hH
          obtain ⟨r', e'⟩ := r.new (o := .tup [.int (i : Nat), u]) hT
          refine ⟨_, r', e', .tup (SqT.of upd_same) (.cons (by rw [Nat.zero_add]; exact .int _) (.cons (g2.mono e'.v) .nil)), same_new' hT, fun b hb => ?_⟩
          by_cases q : b = T
          · rw [q]; exact .inr hT
          · rw [upd_ne q] at hb; exact .inl hb
        · have : (enumD 0 xs).length ≤ i := hi
          rw [enumD_len] at this
          rw [hda2.length]
          exact this
      · exact q1.elim
  · exact q1.elim
/-! ### name = [..] -/
theorem sw_setLc {i : Nat} {y : Str} {py : Pos} {elt tg iter : Expr} {ifs : List Expr} {scope : Scope} {own : List (Str × Nat)} {w : PTI} {gt : PTG} {t : PTT} {spos : Pos} (hc : X.calm = true) (hN : X.N.Nodup) (hi : IW X R tg iter w) (ok : BlkOk X.N X.env.scope scope own)
    (hg : ∀ (s : Shared) (H : Hp) (C : Addr) (cl : List (Str × Addr)) (fp : List Addr) (R : Fr), GC (X.blk s H scope (compEnvC scope cl C X.env) fp) R (own.map (·.2)) tg gt)
    (ht : ∀ (s : Shared) (H : Hp) (C : Addr) (cl : List (Str × Addr)) (fp : List Addr) (R : Fr), IfW (X.blk s H scope (compEnvC scope cl C X.env) fp) R ifs t)
    (he : ∀ (s : Shared) (H : Hp) (C : Addr) (cl : List (Str × Addr)) (fp : List Addr) (R : Fr), EW (X.blk s H scope (compEnvC scope cl C X.env) fp) R elt f)
    (hy : X.N[i]? = some y := by rfl) (hyl : X.env.scope.names.lookup y = some .local := by rfl) (hsw : swapsWith (.ListComp elt [⟨tg, iter, ifs, 0⟩] scope pos) (some (.Name y py)) spos.line X.env = pure true := by exact sw_true rfl rfl rfl (by decide +kernel))
    (hs : ∀ x, foldedSetIterable iter X.env x = pure x := by intro _; rfl) :
    SW X R (.Assign [.Name y py] (.ListComp elt [⟨tg, iter, ifs, 0⟩] scope pos) spos) (qSet i (qLc (own.map (·.2)) w gt t f)) := by
  intro S V H σ Γ PD D r sl q k
  refine wS_of (ps_setLc (g := fun v σ Hh P => ∀ s H C cl fp, wG (X.blk s H scope (compEnvC scope cl C X.env) fp) tg v σ Hh P) (tt := fun σ Hh P => ∀ s H C cl fp, wTs (X.blk s H scope (compEnvC scope cl C X.env) fp) ifs σ Hh P)
    (te := fun σ Hh P => ∀ s H C cl fp, wE (X.blk s H scope (compEnvC scope cl C X.env) fp) elt σ Hh P) hc hN hy hyl hsw wI_pi ok (fun s H C cl fp => ⟨fun pins s' σ Hh v u P I rv h => wG_pg.run pins s' σ Hh v u P I rv (h s H C cl fp)⟩)
    (fun s H C cl fp => ⟨fun pins s' σ Hh P I h => wTs_pts.run pins s' σ Hh P I (h s H C cl fp)⟩) (fun s H C cl fp => ⟨fun pins s' σ Hh P I h => h s H C cl fp pins s' I⟩) hs) ?_
  refine lc_read hi hg ht he r sl q fun v H1 ⟨S1, V1, dv, r1, e1, d1, q1⟩ => ?_
  exact k.nx _ H1 ⟨S1, V1, _, r1, e1, (sl.mono e1).set i d1, q1⟩
/-! ### list(range(..)) -/
def qListRg (w : PTI) : PTE := fun Γ O Q => w Γ O fun it O1 => match dats it.xs with
  | some ds => ds.length ≤ 16777216 ∧ Q (.d (.list ds)) O1
  | none => False
def rgD (lo : Int) (n : Nat) : List PyData := (List.range n).map fun (i : Nat) => .int (lo + i)
def qListRg1 (f : PTE) : PTE := fun Γ O Q => f Γ O fun x O1 => match x with
  | .d (.int n) => (0 ≤ n ∧ n ≤ 100000) ∧ Q (.d (.list (rgD 0 n.toNat))) O1
  | _ => False
def qListRg2 (f g : PTE) : PTE := fun Γ O Q => f Γ O fun x O1 => g Γ O1 fun y O2 => match x, y with
  | .d (.int m), .d (.int n) => (-100000 ≤ m ∧ m ≤ 100000 ∧ -100000 ≤ n ∧ n ≤ 100000) ∧ Q (.d (.list (rgD m (n - m).toNat))) O2
  | _, _ => False
theorem dq_rg {K : PySem.W.Frag} {V : Hp} (a : Int) (n : Nat) : DqL K V ((List.range n).map fun i => L2.V.int (a + (i : Nat))) (rgD a n) := by
  have : ∀ xs : List Nat, DqL K V (xs.map fun i => L2.V.int (a + (i : Nat))) (xs.map fun i => PyData.int (a + (i : Nat))) := by
    intro xs
    induction xs with
    | nil => exact .nil
    | cons x xs ih => exact .cons (.int _) ih
  exact this _
theorem ew_listRg1 {pr : Pos} (hc : X.calm = true) (hm : X.mg "list" = none) (hr : X.mg "range" = none) (ha : EW X R a f) (hg : Gl X "list" := by rfl) (hgr : Gl X "range" := by rfl) (na : starEach [a] X.env = (false, eval a X.env) :: starEach [] X.env := by rfl) {p2 : Pos}
    (nb : starEach [.Call (.Name "range" pr) [a] [] p2] X.env = (false, eval (.Call (.Name "range" pr) [a] [] p2) X.env) :: starEach [] X.env := by rfl) : EW X R (.Call (.Name "list" p) [.Call (.Name "range" pr) [a] [] p2] [] pos) (qListRg1 f) := by
  intro S V H σ Γ Q r sl q
  refine wE_of (pe_listRg hc hg hm (prg_1 hgr hr wE_pe na) nb) (wE_mono (ha S V H σ Γ _ r sl q) fun v H1 ⟨S1, V1, da, r1, e1, d1, q1⟩ => ?_)
  dsimp only at q1
  split at q1
  · rename_i n
    cases d1
    refine ⟨n, rfl, ⟨by omega, by omega, by omega, by omega, by omega⟩, fun l hl => ?_⟩
    have := q1.2
    refine (PostE.new r1 hl (.lst upd_same ?_) q1.2).ext e1
    unfold rgV
    rw [Int.sub_zero]
    exact dq_rg 0 n.toNat
  · exact q1.elim
theorem ew_listRg2 {pr : Pos} (hc : X.calm = true) (hm : X.mg "list" = none) (hr : X.mg "range" = none) (ha : EW X R a f) (hb : EW X R b g) (hg : Gl X "list" := by rfl) (hgr : Gl X "range" := by rfl) (na : starEach [a, b] X.env = (false, eval a X.env) :: starEach [b] X.env := by rfl)
    (na2 : starEach [b] X.env = (false, eval b X.env) :: starEach [] X.env := by rfl) {p2 : Pos} (hp : (backTo p2 (starEach [b] X.env)).any (·.1) = false := by rfl)
    (nb : starEach [.Call (.Name "range" pr) [a, b] [] p2] X.env = (false, eval (.Call (.Name "range" pr) [a, b] [] p2) X.env) :: starEach [] X.env := by rfl) : EW X R (.Call (.Name "list" p) [.Call (.Name "range" pr) [a, b] [] p2] [] pos) (qListRg2 f g) := by
  intro S V H σ Γ Q r sl q
  refine wE_of (pe_listRg hc hg hm (prg_2 hgr hr wE_pe wE_pe na na2 hp) nb) (wE_mono (ha S V H σ Γ _ r sl q) fun v H1 ⟨S1, V1, da, r1, e1, d1, q1⟩ => ?_)
  refine wE_mono (hb S1 V1 H1 σ Γ _ r1 (sl.mono e1) q1) fun u H2 ⟨S2, V2, db, r2, e2, d2, q2⟩ => ?_
  dsimp only at q2
  split at q2
  · cases d1; cases d2
    refine ⟨_, _, rfl, rfl, ⟨by omega, by omega, by omega, by omega, by omega⟩, fun l hl => ?_⟩
    exact (PostE.new r2 hl (.lst upd_same (dq_rg _ _)) q2.2).ext (e1.trans e2)
  · exact q2.elim
/-! ### lists that change -/
def qAppend (f g : PTE) : PTE := fun Γ O Q => f Γ O fun x O1 => match rd O1 x with
  | some (.list _) => g Γ O1 fun y O2 => match x, y with
    | .o i, .d z => match O2[i]? with
      | some (.lst ds) => ds.length < 100000 ∧ Q (.d .none) (O2.set i (.lst (ds ++ [z])))
      | _ => False
    | _, _ => False
  | _ => False
theorem own_lst {K : PySem.W.Frag} {S : List Cell} {V H : Hp} {i : Nat} {v : L2.V} {ds : List PyData} (r : Rep K R S V H) (d : DVat K S V v (.o i)) (h : (obs S)[i]? = some (.lst ds)) : ∃ a xs, v = .ref a ∧ S[i]? = some (a, [a], .lst ds) ∧ H a = some (.lst xs) ∧ DqL K V xs ds := by
  obtain ⟨c, hc, rfl⟩ := d
  obtain ⟨c', hc', ho⟩ := obs_get h
  rw [hc] at hc'; cases hc'
  have := r.own i c hc
  rw [ho] at this
  obtain ⟨h1, xs, h2, h3⟩ := this
  obtain ⟨a, fs, o⟩ := c
  dsimp only at h1 h2 ho
  subst h1 ho
  exact ⟨a, xs, rfl, hc, h2, h3⟩
theorem ew_append {o : Expr} {apos cpos : Pos} (ho : EW X R o f) (ha : EW X R a g) (hbase : attributeBase o "append" X.env (eval o X.env) = eval o X.env := by rfl)
    (hfew : ((backTo cpos (starEach [a] X.env)).all (fun x => !x.1) && (backToKw cpos (keywordEach [] X.env)).all (fun x => x.1.isSome) && decide ([a].length + ([] : List Keyword).length + (if ([] : List Keyword).isEmpty then 0 else 1) < 30)) = true := by rfl)
    (hline : (apos.endLine == cpos.line) = true := by rfl) (hs : starEach [a] X.env = (false, eval a X.env) :: starEach [] X.env := by rfl) (hplain : (backTo cpos (starEach [] X.env)).any (·.1) = false := by rfl) : EW X R (.Call (.Attribute o "append" apos) [a] [] cpos) (qAppend f g) := by
  intro S V H σ Γ Q r sl q
  refine wE_of (pe_bm PySem.F.plainAttrs_list PySem.F.slot_list_append PySem.F.type_list_append mt_append wE_pe (pa_cons wE_pe pa_nil hs) hbase hfew hline hs hplain) (wE_mono (ho S V H σ Γ _ r sl q) fun v H1 ⟨S1, V1, da, r1, e1, d1, q1⟩ => ?_)
  dsimp only at q1
  split at q1
  · rename_i ds0 h0
    obtain ⟨a0, xs0, rfl, hx0, hd0⟩ := rd_lst r1 d1 h0
    refine ⟨.inl ⟨rfl, xs0, SqL.of hx0⟩, wE_mono (ha S1 V1 H1 σ Γ _ r1 (sl.mono e1) q1) fun u H2 ⟨S2, V2, db, r2, e2, d2, q2⟩ => ?_⟩
    dsimp only at q2
    split at q2
    · rename_i _ _ i z _
      split at q2
      · rename_i ds h1
        obtain ⟨a1, xs, ea, hc, hx, hd⟩ := own_lst r2 (d1.mono e2) h1
        cases ea
        have hs : sizeLine = 16777216 := sizeLine_eq
        have hl := hd.length
        obtain ⟨r3, e3⟩ := r2.put (o := .lst (xs ++ [u])) (ob' := .lst (ds ++ [z])) hc ⟨rfl, xs ++ [u], upd_same, hd.append (DqL.one d2)⟩
        refine ⟨a0, xs, u, rfl, rfl, hx, by omega, ?_⟩
        refine ⟨_, _, .d .none, r3, (e1.trans e2).trans e3, .non, ?_⟩
        rw [obs_set]
        exact q2.2
      · exact q2.elim
    · exact q2.elim
  · exact q1.elim
end
end PW

namespace PW
open PySem PySem.Spec PyProof.Rows L2
/-- a def of the top: where it stands, and how its arguments bind -/
structure Def (K : PySem.W.Frag) (mg : Str → Option Value) (x : Str) (st : Stmt) (ps : List Str) (f : Addr) (fd : FuncData) : Prop where
  F : Fun K x x st f fd
  m : mg x = some (.ref f)
  b : Binds K fd ps []
/-- the built-ins' names are free -/
structure Txt (K : PySem.W.Frag) (mg : Str → Option Value) : Prop where
  str : mg "str" = none
  dict : mg "dict" = none
  set : mg "set" = none
  sorted : mg "sorted" = none
  range : mg "range" = none
  min : mg "min" = none
  max : mg "max" = none
  sum : mg "sum" = none
  len : mg "len" = none
  int : mg "int" = none
  isi : mg "isinstance" = none
  all : mg "all" = none
  any : mg "any" = none
  zip : mg "zip" = none
  enumerate : mg "enumerate" = none
  list : mg "list" = none
  tuple : mg "tuple" = none
  bool : mg "bool" = none
  repr : mg "repr" = none
/-- a constant of the module -/
structure ModC (K : PySem.W.Frag) (mg : Str → Option Value) (x : Str) (d : PyData) (v : L2.V) (u : Value) : Prop where
  m : mg x = some u
  r : RelV v u
  d : ∀ V, Dq K V v d
theorem hu65 {A : Around} {k : Nat} (hr : Room k A) : A.units + 65 < cLine := by
  have := hr.un
  omega
def qNever : PTS := fun _ _ _ => False
theorem sw_never {X : Cx} {R : Fr} {st : Stmt} : SW X R st qNever := fun _ _ _ _ _ _ _ _ _ q _ => q.elim
/-! ### the script -/
def scriptψ (K : PySem.W.Frag) (ns : List Int) : Hp → L2.V → Prop := fun V v => ∃ a, v = .ref a ∧ SqL K V a (ns.map L2.V.int)
theorem script_at {K : PySem.W.Frag} {ns : List Int} {S : List Cell} {V H : Hp} {R : Fr} {v : L2.V} (r : Rep K R S V H) (d : DVat K S V v (.x (scriptψ K ns))) : ∃ a, v = .ref a ∧ SqL K H a (ns.map L2.V.int) := d H r.vh
theorem script_mono {K : PySem.W.Frag} {ns : List Int} {V V' : Hp} {v : L2.V} (s : Same V V') (h : scriptψ K ns V v) : scriptψ K ns V' v := by
  obtain ⟨a, e, h⟩ := h
  exact ⟨a, e, s.seq h⟩
section
variable {X : Cx} {R : Fr} {e a b : Expr} {f g : PTE} {pos p : Pos}
def qLenX (K : PySem.W.Frag) (f : PTE) : PTE := fun Γ O Q => f Γ O fun dv O1 => ∃ ns, dv = .x (scriptψ K ns) ∧ Q (.d (.int (ns.length : Nat))) O1
theorem ew_lenX {K : PySem.W.Frag} (hK : X.K = K) (hm : X.mg "len" = none) (ha : EW X R a f) (hg : Gl X "len" := by rfl) (he : starEach [a] X.env = (false, eval a X.env) :: starEach [] X.env := by rfl) (hpl : (backTo pos (starEach [] X.env)).any (·.1) = false := by rfl) : EW X R (.Call (.Name "len" p) [a] [] pos) (qLenX K f) := by
  subst hK
  intro S V H σ Γ Q r sl q
  refine wE_of (pe_callB call_len_seq hg hm PySem.boot_len (pa_cons wE_pe pa_nil he) (by decide) (by decide) he hpl) (wE_mono (ha S V H σ Γ _ r sl q) fun v H1 ⟨S1, V1, dv, r1, e1, d1, ns, h, q1⟩ => ?_)
  subst h
  obtain ⟨a, rfl, hs⟩ := script_at r1 d1
  exact ⟨a, _, rfl, .inl hs, by rw [List.length_map]; exact PostE.ext e1 (.hd r1 (.int _) q1)⟩
def qIxX (K : PySem.W.Frag) (f g : PTE) : PTE := fun Γ O Q => f Γ O fun x O1 => g Γ O1 fun y O2 => ∃ ns k n, x = .x (scriptψ K ns) ∧ y = .d (.int k) ∧ atI ns k = some n ∧ Q (.d (.int n)) O2
theorem ew_ixX {K : PySem.W.Frag} (hK : X.K = K) (ha : EW X R a f) (hb : EW X R b g) (hs : PlainIx b := by exact fun _ _ => rfl) : EW X R (.Subscript a b pos) (qIxX K f g) := by
  subst hK
  intro S V H σ Γ Q r sl q
  refine wE_of (pe_ix ix_list wE_pe wE_pe hs) (wE_mono (ha S V H σ Γ _ r sl q) fun v H1 ⟨S1, V1, da, r1, e1, d1, q1⟩ => ?_)
  refine wE_mono (hb S1 V1 H1 σ Γ _ r1 (sl.mono e1) q1) fun u H2 ⟨S2, V2, db, r2, e2, d2, q2⟩ => ?_
  obtain ⟨ns, k, n, rfl, rfl, h, q3⟩ := q2
  cases d2
  obtain ⟨a, rfl, hq⟩ := script_at r2 (d1.mono e2)
  refine ⟨a, _, k, .int n, rfl, rfl, hq, ?_, PostE.ext (e1.trans e2) (.hd r2 (.int _) q3)⟩
  unfold atI at h ⊢
  rw [List.length_map]
  cases z : ixN ns.length k with
  | none => rw [z] at h; cases h
  | some j =>
    rw [z] at h
    have h' : ns[j]? = some n := h
    show (ns.map L2.V.int)[j]? = some (.int n)
    rw [List.getElem?_map, h']; rfl
/-- a list that has just been made, and will change -/
def qOwn (f : PTE) : PTE := fun Γ O Q => f Γ O fun dv O1 => match dv with
  | .d (.list ds) => Q (.o O1.length) (O1 ++ [.lst ds])
  | _ => False
end
/-! ### promises of the law's helpers -/
def pspSource (K : PySem.W.Frag) : PSp := fun dvs O Q => ∃ ns k, dvs = [.x (scriptψ K ns), .d (.int k)] ∧ O = [] ∧ 0 ≤ k ∧ k ≤ 1000 ∧ Q (.o 0) [.dr]
def pspDraw : PSp := fun dvs O Q => ∃ m, dvs = [.o 0, .d (.int m)] ∧ O = [.dr] ∧ 0 < m ∧ m ≤ 1000000000 ∧ ∀ r : Int, 0 ≤ r → r < m → Q (.d (.int r)) [.dr]
def pspPick : PSp := fun dvs O Q => ∃ ds : List PyData, dvs = [.o 0, .d (.list ds)] ∧ O = [.dr] ∧ 0 < ds.length ∧ ds.length ≤ 1000 ∧ ∀ d, d ∈ ds → Q (.d d) [.dr]
end PW

namespace PW
open PySem PySem.Spec PyProof.Rows L2
def But (d : Addr) (H H' : Hp) : Prop := ∀ b o, b ≠ d → H b = some o → H' b = some o
theorem But.trans {d : Addr} {H H1 H2 : Hp} (a : But d H H1) (b : But d H1 H2) : But d H H2 := fun c o n h => b c o n (a c o n h)
theorem But.upd {d : Addr} {H : Hp} {o : HO} : But d H (L2.upd H d o) := fun b u n h => by rw [upd_ne n]; exact h
section
variable {K : PySem.W.Frag} {R : Fr} {S S' : List Cell} {V V' H H' : Hp}
theorem Rep.putB (r : Rep K R S V H) {i : Nat} {a : Addr} {ob ob' : Ob} (hi : S[i]? = some (a, [a], ob)) (hb : But a H H') (ho : OwnAt K V H' a [a] ob') (hn : H' a ≠ none) : Rep K R (S.set i (a, [a], ob')) V H' ∧ Ext S V (S.set i (a, [a], ob')) V := by
  obtain ⟨va, ha, fa⟩ := r.foot i _ hi a (List.mem_singleton_self a)
  have vh : Same V H' := fun b u e => hb b u (ne_of_none e va) (r.vh b u e)
  have get : ∀ {j : Nat} {c : Cell}, (S.set i (a, [a], ob'))[j]? = some c → (j ≠ i ∧ S[j]? = some c) ∨ (j = i ∧ c = (a, [a], ob')) := fun {j c} e => by
    rw [List.getElem?_set] at e
    by_cases hj : i = j
    · subst hj
      rw [if_pos rfl, if_pos (List.getElem?_eq_some_iff.mp hi).1] at e
      cases e; exact .inr ⟨rfl, rfl⟩
    · rw [if_neg hj] at e; exact .inl ⟨fun z => hj z.symm, e⟩
  have nn : ∀ {b : Addr}, H b ≠ none → H' b ≠ none := fun {b} h => by
    by_cases q : b = a
    · rw [q]; exact hn
    · cases z : H b with
      | none => exact (h z).elim
      | some o => rw [hb b o q z]; simp
  have eqo : ∀ {j : Nat} {c : Cell}, j ≠ i → S[j]? = some c → ∀ b ∈ c.2.1, H' b = H b := fun {j c} hj h b hbm => by
    have n : b ≠ a := fun z => r.sep i j _ c (fun q => hj q.symm) hi h a (List.mem_singleton_self a) (by rw [← z]; exact hbm)
    cases z : H b with
    | none => exact ((r.foot j c h b hbm).2.1 z).elim
    | some o => exact hb b o n z
  refine ⟨⟨r.v0, vh, fun b u hbf e => ?_, fun b hbf => nn (r.f0 b hbf), r.vnew, fun j c e => ?_, fun j c e b hbm => ?_, fun j k c c' hjk e e' b hbm hb' => ?_⟩, ⟨Same.refl _, fun j c h => ?_⟩⟩
  · have n : b ≠ a := fun z => by
      subst z
      rcases Fr.foot_or fa with f | f
      · exact hbf f
      · rw [f] at e; cases e
    exact hb b u n (r.keep b u hbf e)
  · rcases get e with ⟨hj, e⟩ | ⟨_, rfl⟩
    · exact (r.own j c e).stay (Same.refl _) vh fun b hbm => eqo hj e b hbm
    · exact ho
  · rcases get e with ⟨hj, e⟩ | ⟨hji, rfl⟩
    · obtain ⟨h1, h2, h3⟩ := r.foot j c e b hbm
      exact ⟨h1, nn h2, h3⟩
    · rw [hji]
      have hb' : b = a := List.mem_singleton.mp hbm
      rw [hb']
      exact ⟨va, hn, fa⟩
  · rcases get e with ⟨hj, h⟩ | ⟨hj, rfl⟩
    · rcases get e' with ⟨hk, h'⟩ | ⟨hk, rfl⟩
      · exact r.sep j k c c' hjk h h' b hbm hb'
      · have z : b = a := List.mem_singleton.mp hb'
        exact r.sep i j _ c (fun q => hj q.symm) hi h a (List.mem_singleton_self a) (by rw [← z]; exact hbm)
    · rcases get e' with ⟨hk, h'⟩ | ⟨hk, rfl⟩
      · have z : b = a := List.mem_singleton.mp hbm
        exact r.sep i k _ c' (fun q => hk q.symm) hi h' a (List.mem_singleton_self a) (by rw [← z]; exact hb')
      · exact hjk (hj.trans hk.symm)
  · by_cases hj : i = j
    · subst hj
      rw [hi] at h; cases h
      exact ⟨(a, [a], ob'), by rw [List.getElem?_set, if_pos rfl, if_pos (List.getElem?_eq_some_iff.mp hi).1], rfl⟩
    · exact ⟨c, by rw [List.getElem?_set, if_neg hj]; exact h, rfl⟩
theorem own_dr {i : Nat} {v : L2.V} (r : Rep K R S V H) (d : DVat K S V v (.o i)) (h : (obs S)[i]? = some .dr) : ∃ a, v = .ref a ∧ S[i]? = some (a, [a], .dr) ∧ Draws H a := by
  obtain ⟨c, hc, rfl⟩ := d
  obtain ⟨c', hc', ho⟩ := obs_get h
  rw [hc] at hc'; cases hc'
  have := r.own i c hc
  rw [ho] at this
  obtain ⟨h1, h2⟩ := this
  obtain ⟨a, fs, o⟩ := c
  dsimp only at h1 h2 ho
  subst h1 ho
  exact ⟨a, rfl, hc, h2⟩
end
def spDrawH : Sp := fun vs H Q _ => ∃ (d : Addr) (m : Int), vs = [.ref d, .int m] ∧ Draws H d ∧ 0 < m ∧ m ≤ 1000000000 ∧ ∀ r H', 0 ≤ r → r < m → Draws H' d → But d H H' → Q (.int r) H'
theorem draw_lift {K : PySem.W.Frag} (vs : List L2.V) (H : Hp) (Q : VK) (E : XK) (h : liftSp K pspDraw vs H Q E) : spDrawH vs H Q E := by
  obtain ⟨S, V, dvs, PQ, r, d, ⟨m, rfl, ho, h0, h1, k⟩, kk⟩ := h
  cases d with
  | cons d1 d2 => cases d2 with
    | cons d2 d3 =>
      cases d3; cases d2
      obtain ⟨a, rfl, hc, hd⟩ := own_dr r d1 (by rw [ho]; rfl)
      refine ⟨a, m, rfl, hd, h0, h1, fun n H' n0 n1 hd' hb => ?_⟩
      have hn : H' a ≠ none := by
        obtain ⟨_, _, _, e⟩ := hd'
        rw [e]; simp
      obtain ⟨r', e'⟩ := r.putB (ob' := .dr) hc hb ⟨rfl, hd'⟩ hn
      refine kk (.int n) H' _ V (.d (.int n)) r' e' (.int n) ?_ (by rw [List.length_set]; exact Nat.le_refl _)
      rw [obs_set, ho]
      exact k n n0 n1
def spSourceH (K : PySem.W.Frag) : Sp := fun vs H Q _ => ∃ (a : Addr) (ns : List Int) (k : Int), vs = [.ref a, .int k] ∧ SqL K H a (ns.map L2.V.int) ∧ 0 ≤ k ∧ k ≤ 1000 ∧ ∀ d, H d = none → ∀ x y z : Int, Q (.ref d) (upd H d (.lst [.int x, .int y, .int z]))
theorem source_lift {K : PySem.W.Frag} (vs : List L2.V) (H : Hp) (Q : VK) (E : XK) (h : liftSp K (pspSource K) vs H Q E) : spSourceH K vs H Q E := by
  obtain ⟨S, V, dvs, PQ, r, d, ⟨ns, k, rfl, ho, h0, h1, kq⟩, kk⟩ := h
  have hS : S = [] := by cases S with
    | nil => rfl
    | cons c S => simp [obs] at ho
  subst hS
  cases d with
  | cons d1 d2 => cases d2 with
    | cons d2 d3 =>
      cases d3; cases d2
      obtain ⟨a, rfl, hs⟩ := script_at r d1
      refine ⟨a, ns, k, rfl, hs, h0, h1, fun p hp x y z => ?_⟩
      obtain ⟨r', e'⟩ := r.newOwn (o := .lst [.int x, .int y, .int z]) (ob := .dr) hp ⟨rfl, x, y, z, upd_same⟩
      exact kk (.ref p) _ _ V (.o 0) r' e' ⟨_, rfl, rfl⟩ kq (by simp)
end PW

namespace PW
open PySem PySem.Spec PyProof.Rows L2
/-! ### loops and comprehensions by induction -/
theorem loop_ind {ok : List Ob → Prop} {g : PTG} {body : PTS} {PD : PEnds} (J : List DV → PEnv → List Ob → Prop) (h0 : ∀ Γ O, J [] Γ O → ok O ∧ PD.nx Γ O)
    (hs : ∀ d ds Γ O, J (d :: ds) Γ O → (∀ Γ' O', J ds Γ' O' → qLoop ok g body PD ds Γ' O') → ok O ∧ g d Γ O fun Γ2 O2 => body { PD with nx := qLoop ok g body PD ds, ct := qLoop ok g body PD ds, bk := PD.nx } Γ2 O2) :
    ∀ ds Γ O, J ds Γ O → qLoop ok g body PD ds Γ O
  | [], Γ, O, j => h0 Γ O j
  | d :: ds, Γ, O, j => hs d ds Γ O j (loop_ind J h0 hs ds)
theorem lc_ind {ok : List Ob → Prop} {g : PTG} {t : PTT} {f : PTE} {Q : List PyData → List Ob → Prop} {Γ : PEnv} (J : List DV → List PyData → List Ob → Prop) (h0 : ∀ acc O, J [] acc O → ok O ∧ Q acc O)
    (hs : ∀ d ds acc O, J (d :: ds) acc O → (∀ acc' O', J ds acc' O' → qLcGo ok g t f Q ds acc' Γ O') → ok O ∧ g d Γ O fun Γ1 O1 => t Γ1 O1 fun b O2 => match b with
      | true => f Γ1 O2 fun dv O3 => match dv with
        | .d x => qLcGo ok g t f Q ds (acc ++ [x]) Γ O3
        | _ => False
      | false => qLcGo ok g t f Q ds acc Γ O2) : ∀ ds acc O, J ds acc O → qLcGo ok g t f Q ds acc Γ O
  | [], acc, O, j => h0 acc O j
  | d :: ds, acc, O, j => hs d ds acc O j (lc_ind J h0 hs ds)
/-- an element a function of the item -/
theorem lc_map {ok : List Ob → Prop} {g : PTG} {f : PTE} {Q : List PyData → List Ob → Prop} {Γ : PEnv} {O : List Ob} (h : DV → PyData) (hok : ok O) : ∀ (ds : List DV) (acc : List PyData), (∀ d ∈ ds, ∀ Q' : QE, Q' (.d (h d)) O → g d Γ O fun Γ1 O1 => f Γ1 O1 Q') → Q (acc ++ ds.map h) O → qLcGo ok g qYes f Q ds acc Γ O
  | [], acc, _, q => ⟨hok, by simpa using q⟩
  | d :: ds, acc, hs, q => ⟨hok, hs d List.mem_cons_self _ (lc_map h hok ds (acc ++ [h d]) (fun e he => hs e (List.mem_cons_of_mem _ he)) (by simpa [List.append_assoc] using q))⟩
/-! ### what the laws hold for the same -/
mutual
def dep : PyData → Nat
  | .list ds => depL ds + 1
  | .tuple ds => depL ds + 1
  | _ => 0
def depL : List PyData → Nat
  | [] => 0
  | d :: ds => max (dep d) (depL ds)
end
mutual
def wd : PyData → Nat
  | .list ds => max ds.length (wdL ds)
  | .tuple ds => max ds.length (wdL ds)
  | _ => 0
def wdL : List PyData → Nat
  | [] => 0
  | d :: ds => max (wd d) (wdL ds)
end
mutual
def sm : PyData → PyData → Bool
  | .none, .none => true
  | .str x, .str y => x == y
  | .bool x, .bool y => x == y
  | .int x, .int y => x == y
  | .list xs, .list ys => smL xs ys
  | .tuple xs, .tuple ys => smL xs ys
  | _, _ => false
def smL : List PyData → List PyData → Bool
  | [], [] => true
  | x :: xs, y :: ys => sm x y && smL xs ys
  | _, _ => false
end
theorem smL_len : ∀ (xs ys : List PyData), smL xs ys = true → xs.length = ys.length
  | [], [], _ => rfl
  | [], _ :: _, h => by simp [smL] at h
  | _ :: _, [], h => by simp [smL] at h
  | x :: xs, y :: ys, h => by
    rw [smL, Bool.and_eq_true] at h
    rw [List.length_cons, List.length_cons, smL_len xs ys h.2]
/-- one pair of items told the same -/
def smP : DV → PyData
  | .d (.tuple [x, y]) => .bool (sm x y)
  | _ => .none
def smB : DV → Bool
  | .d (.tuple [x, y]) => sm x y
  | _ => false
theorem smL_zip : ∀ (xs ys : List PyData), xs.length = ys.length → smL xs ys = ((zipD xs ys).map smB).all id
  | [], [], _ => by simp [smL, zipD]
  | [], _ :: _, h => by simp at h
  | _ :: _, [], h => by simp at h
  | x :: xs, y :: ys, h => by
    rw [smL, zipD, List.map_cons, List.all_cons, smL_zip xs ys (by simpa using h)]
    rfl
theorem zipD_mem : ∀ {xs ys : List PyData} {d : DV}, d ∈ zipD xs ys → ∃ x y, x ∈ xs ∧ y ∈ ys ∧ d = .d (.tuple [x, y])
  | x :: xs, y :: ys, d, h => by
    rw [zipD] at h
    rcases List.mem_cons.mp h with rfl | h
    · exact ⟨x, y, List.mem_cons_self, List.mem_cons_self, rfl⟩
    · obtain ⟨a, b, h1, h2, h3⟩ := zipD_mem h
      exact ⟨a, b, List.mem_cons_of_mem _ h1, List.mem_cons_of_mem _ h2, h3⟩
  | [], _, _, h => by simp [zipD] at h
  | _ :: _, [], _, h => by simp [zipD] at h
theorem smP_map (xs ys : List PyData) : (zipD xs ys).map smP = ((zipD xs ys).map smB).map .bool := by
  rw [List.map_map]
  refine List.map_congr_left fun d hd => ?_
  obtain ⟨x, y, _, _, rfl⟩ := zipD_mem hd
  rfl
theorem depL_mem : ∀ {ds : List PyData} {d : PyData}, d ∈ ds → dep d ≤ depL ds
  | x :: ds, d, h => by
    rw [depL]
    rcases List.mem_cons.mp h with rfl | h
    · omega
    · have := depL_mem h
      omega
theorem wdL_mem : ∀ {ds : List PyData} {d : PyData}, d ∈ ds → wd d ≤ wdL ds
  | x :: ds, d, h => by
    rw [wdL]
    rcases List.mem_cons.mp h with rfl | h
    · omega
    · have := wdL_mem h
      omega
def pspSame (n : Nat) : PSp := fun dvs O Q => ∃ x y : PyData, dvs = [.d x, .d y] ∧ O = [] ∧ dep y < n ∧ wd y ≤ 100000 ∧ Q (.d (.bool (sm x y))) []
mutual
def plain : PyData → Bool
  | .list ds => plainL ds
  | .tuple ds => plainL ds
  | .dict _ => false
  | _ => true
def plainL : List PyData → Bool
  | [] => true
  | d :: ds => plain d && plainL ds
end
theorem plainL_mem : ∀ {ds : List PyData} {d : PyData}, plainL ds = true → d ∈ ds → plain d = true
  | x :: ds, d, h, hd => by
    rw [plainL, Bool.and_eq_true] at h
    rcases List.mem_cons.mp hd with rfl | hd
    · exact h.1
    · exact plainL_mem h.2 hd
mutual
theorem Dq.plain {K : PySem.W.Frag} {V : Hp} : ∀ {d : PyData} {v : L2.V}, Dq K V v d → plain d = true
  | .none, _, _ => rfl
  | .bool _, _, _ => rfl
  | .int _, _, _ => rfl
  | .str _, _, _ => rfl
  | .list ds, _, h => by
    cases h with
    | lst h1 h2 => exact DqL.plain h2
  | .tuple ds, _, h => by
    cases h with
    | tup h1 h2 => exact DqL.plain h2
  | .dict _, _, h => by cases h
theorem DqL.plain {K : PySem.W.Frag} {V : Hp} : ∀ {ds : List PyData} {vs : List L2.V}, DqL K V vs ds → plainL ds = true
  | [], _, _ => rfl
  | d :: ds, _, h => by
    cases h with
    | cons h1 h2 => rw [plainL, Bool.and_eq_true]; exact ⟨Dq.plain h1, DqL.plain h2⟩
end
theorem plain_dvs {K : PySem.W.Frag} {S : List Cell} {V : Hp} {vs : List L2.V} {dvs : List DV} (d : DVs K S V vs dvs) : ∀ x, DV.d x ∈ dvs → plain x = true := by
  induction d with
  | nil => intro x h; cases h
  | cons h1 h2 ih =>
    intro x h
    rcases List.mem_cons.mp h with rfl | h
    · exact Dq.plain h1
    · exact ih x h
section
variable {P : Program} {w : World} {K : PySem.W.Frag} {mg : Str → Option Value} {base : Heap}
/-- as fnP; the arguments are of lists, tuples and what is flat -/
theorem fnPd {x qual : Str} {st : Stmt} {f : Addr} {fd : FuncData} {N ps : List Str} {k : Nat} {psp : PSp} {F : PTS} (Fn : Fun K x qual st f fd) (Sc : FnScope N ps (defScope st))
    (body : ∀ (cdv : Value) (A : Around) (outer : List Env) (s : Shared) (H : Hp) (E : XK), Room k (A.deeper (envOfC qual (defScope st) s.heap.objs.size f cdv)) → ∀ R : Fr, BW (cxOf CX0 P w K mg base N qual (defScope st) f cdv A outer s H E).nox R (defBody st) F)
    (h : ∀ dvs O PQ, psp dvs O PQ → (∀ x, DV.d x ∈ dvs → plain x = true) → dvs.length = ps.length ∧ F { nx := fun _ O' => RetN O.length PQ (.d .none) O', rt := RetN O.length PQ } (startG N dvs) O) : FnOk P w K mg base CX0 (k + 1) f fd ps (liftSp K psp) := by
  have := fnP (psp := fun dvs O Q => psp dvs O Q ∧ ∀ x, DV.d x ∈ dvs → plain x = true) (mg := mg) (base := base) (P := P) (w := w) Fn Sc body fun dvs O PQ q => h dvs O PQ q.1 q.2
  refine this.imp fun vs H Q E ⟨S, V, dvs, PQ, r, d, q, k⟩ => ⟨S, V, dvs, PQ, r, d, ⟨q, plain_dvs d⟩, k⟩
end
theorem noD {K : PySem.W.Frag} {V : Hp} {v : L2.V} {kvs : List (PyData × PyData)} : ¬ Dq K V v (.dict kvs) := fun h => nomatch h
end PW

namespace PW
open PySem PySem.Spec PyProof.Rows L2
/-! ### a for whose turns leave no object behind -/
def dropV (m : Nat) : Option DV → Option DV
  | some (.o j) => if j < m then some (.o j) else none
  | some (.d x) => some (.d x)
  | some (.x ψ) => some (.x ψ)
  | none => none
def dropS (m : Nat) (Γ : PEnv) : PEnv := Γ.map (dropV m)
def qLoopW (n0 : Nat) (ok : List Ob → Prop) (g : PTG) (body : PTS) (PD : PEnds) : List DV → QN
  | [] => fun Γ O => ok O ∧ PD.nx Γ O
  | d :: ds => fun Γ O => ok O ∧ g d Γ O fun Γ2 O2 => body { PD with nx := fun Γ O => qLoopW n0 ok g body PD ds (dropS n0 Γ) (O.take n0), ct := fun Γ O => qLoopW n0 ok g body PD ds (dropS n0 Γ) (O.take n0), bk := PD.nx } Γ2 O2
def qForW (w : PTI) (g : PTG) (body : PTS) : PTS := fun PD Γ O => w Γ O fun it O1 => qLoopW O1.length it.ok g body PD it.xs Γ O1
section
variable {K : PySem.W.Frag} {R : Fr} {S S' : List Cell} {V V' H : Hp}
theorem Slots.drop {σ : L2.St} {Γ : PEnv} (h : Slots K S V σ Γ) (m : Nat) : Slots K (S.take m) V σ (dropS m Γ) := by
  refine ⟨by unfold dropS; rw [List.length_map]; exact h.len, fun i dv e => ?_⟩
  unfold dropS at e
  rw [List.getElem?_map] at e
  cases q : Γ[i]? with
  | none => rw [q] at e; cases e
  | some s =>
    rw [q] at e
    have e' : dropV m s = some dv := Option.some.inj e
    cases s with
    | none => cases e'
    | some dw =>
      obtain ⟨v, h1, h2⟩ := h.at_ i dw q
      cases dw with
      | d x => cases e'; exact ⟨v, h1, h2⟩
      | x ψ => cases e'; exact ⟨v, h1, h2⟩
      | o j =>
        have e2 : (if j < m then some (DV.o j) else none) = some dv := e'
        by_cases hj : j < m
        · rw [if_pos hj] at e2
          cases e2
          obtain ⟨c, h2, h3⟩ := h2
          exact ⟨v, h1, c, by rw [List.getElem?_take, if_pos hj]; exact h2, h3⟩
        · rw [if_neg hj] at e2
          cases e2
theorem LiftN.drop {q : QN} {σ : L2.St} {n : Nat} (hn : n = S.length) (h : LiftN K R S V (fun Γ O => q (dropS n Γ) (O.take n)) σ H) : LiftN K R S V q σ H := by
  subst hn
  obtain ⟨S', V', Γ', r, e, sl, z⟩ := h
  exact ⟨S'.take S.length, V', dropS S.length Γ', r.take _, e.takeR, sl.drop _, by rw [show obs (S'.take S.length) = (obs S').take S.length from List.map_take]; exact z⟩
end
section
variable {X : Cx} {R : Fr} {st : Stmt} {pos : Pos}
theorem sw_forW {tg iter : Expr} {body : List Stmt} {w : PTI} {g : PTG} {B : PTS} (hp : PassesOwn (model X.prog X.w) X.A X.env X.xe) (hc : X.calm = true) (hi : IW X R tg iter w) (hg : GW X R tg g) (hb : BW X R body B)
    (hs : ∀ x, foldedSetIterable iter X.env x = pure x := by intro _; rfl) : SW X R (.For tg iter body [] pos) (qForW w g B) := by
  intro S V H σ Γ PD D r sl q k
  refine wS_of (ps_for hp hc wI_pi wG_pg wB_pss hs) ?_
  refine hi S V H σ Γ _ r sl q _ fun J S1 V1 H1 it r1 e1 ok1 q1 => ?_
  have hl1 : (obs S1).length = S1.length := List.length_map ..
  rw [hl1] at q1
  refine ⟨fun i m σ' H' => m + i = it.xs.length ∧ LiftN X.K R S1 V1 (qLoopW S1.length it.ok g B PD (it.xs.drop i)) σ' H', ⟨it.xs.length, rfl, S1, V1, Γ, r1, Ext.refl, sl.mono e1, q1⟩, ?_⟩
  rintro i m σ2 H2 ⟨hm, S2, V2, Γ2, r2, e2, sl2, q2⟩
  by_cases hlt : i < it.xs.length
  · rw [List.drop_eq_getElem_cons hlt] at q2
    obtain ⟨ok2, q2⟩ := q2
    obtain ⟨go, _⟩ := ok1 i S2 V2 H2 e2 r2 ok2
    obtain ⟨g1, g2⟩ := go _ (List.getElem?_eq_getElem hlt)
    refine .inr ⟨g1, LiftN X.K R S1 V1 (qLoopW S1.length it.ok g B PD (it.xs.drop (i + 1))), fun σ' H' z => ⟨m - 1, by omega, by omega, z⟩, fun x H3 y => ?_⟩
    obtain ⟨V3, r3, e3, d3, _, _⟩ := g2 x H3 y
    refine wG_mono (hg S2 V3 H3 σ2 Γ2 x _ _ r3 (sl2.mono e3) d3 q2) fun σ4 H4 ⟨S4, V4, Γ4, r4, e4, sl4, q4⟩ => ?_
    have e14 := (e2.trans e3).trans e4
    exact hb S4 V4 H4 σ4 Γ4 _ _ r4 sl4 q4 ⟨fun σ' H' z => (z.ext e14).drop rfl, fun v H' z => k.rt v H' (z.ext (e1.trans e14)), fun σ' H' z => k.nx σ' H' (z.ext (e1.trans e14)), fun σ' H' z => (z.ext e14).drop rfl⟩
  · have hd : it.xs.drop i = [] := List.drop_eq_nil_of_le (Nat.le_of_not_lt hlt)
    rw [hd] at q2
    obtain ⟨ok2, q2⟩ := q2
    exact .inl ⟨(ok1 i S2 V2 H2 e2 r2 ok2).2 (Nat.le_of_not_lt hlt), k.nx σ2 H2 ⟨S2, V2, Γ2, r2, e1.trans e2, sl2, q2⟩⟩
end
theorem loopW_ind {n0 : Nat} {ok : List Ob → Prop} {g : PTG} {body : PTS} {PD : PEnds} (J : List DV → PEnv → List Ob → Prop) (h0 : ∀ Γ O, J [] Γ O → ok O ∧ PD.nx Γ O)
    (hs : ∀ d ds Γ O, J (d :: ds) Γ O → (∀ (Γ' : PEnv) (O' : List Ob), J ds (dropS n0 Γ') (O'.take n0) → qLoopW n0 ok g body PD ds (dropS n0 Γ') (O'.take n0)) → ok O ∧ g d Γ O fun Γ2 O2 => body { PD with nx := fun Γ O => qLoopW n0 ok g body PD ds (dropS n0 Γ) (O.take n0), ct := fun Γ O => qLoopW n0 ok g body PD ds (dropS n0 Γ) (O.take n0), bk := PD.nx } Γ2 O2) :
    ∀ ds Γ O, J ds Γ O → qLoopW n0 ok g body PD ds Γ O
  | [], Γ, O, j => h0 Γ O j
  | d :: ds, Γ, O, j => hs d ds Γ O j fun Γ' O' j' => loopW_ind J h0 hs ds _ _ j'
theorem join2 {α : Type} {C G : α → Prop} {A : Prop} (main : (∀ c, C c → G c) → A) (rest : ∀ c, C c → G c) : A := main rest
theorem rngD_mem {lo : Int} {n : Nat} {d : DV} (h : d ∈ rngD lo n) : ∃ k : Int, d = .d (.int k) ∧ lo ≤ k ∧ k < lo + n := by
  unfold rngD at h
  obtain ⟨i, hi, rfl⟩ := List.mem_map.mp h
  rw [List.mem_range] at hi
  exact ⟨lo + i, rfl, by omega, by omega⟩
/-! ### more about the same -/
mutual
theorem sm_refl : ∀ {d : PyData}, plain d = true → sm d d = true
  | .none, _ => rfl
  | .bool b, _ => by rw [sm]; exact beq_self_eq_true b
  | .int b, _ => by rw [sm]; exact beq_self_eq_true b
  | .str b, _ => by rw [sm]; exact beq_self_eq_true b
  | .list ds, h => by rw [sm]; exact smL_refl h
  | .tuple ds, h => by rw [sm]; exact smL_refl h
  | .dict _, h => by cases h
theorem smL_refl : ∀ {ds : List PyData}, plainL ds = true → smL ds ds = true
  | [], _ => rfl
  | d :: ds, h => by
    rw [plainL, Bool.and_eq_true] at h
    rw [smL, sm_refl h.1, smL_refl h.2]; rfl
end
theorem cut_take (ds : List PyData) (k : Nat) : cutP ds none (some (k : Int)) = ds.take k := by
  unfold cutP
  rw [HT.sIx_none, HT.sIx_nat, List.drop_zero, Nat.sub_zero]
  by_cases h : k ≤ ds.length
  · rw [Nat.min_eq_left h]
  · rw [Nat.min_eq_right (by omega), List.take_length, List.take_of_length_le (by omega)]
theorem cut_drop (ds : List PyData) (k : Nat) : cutP ds (some (k : Int)) none = ds.drop k := by
  unfold cutP
  rw [HT.sIx_none, HT.sIx_nat]
  by_cases h : k ≤ ds.length
  · rw [Nat.min_eq_left h, List.take_of_length_le (by rw [List.length_drop]; omega)]
  · rw [Nat.min_eq_right (by omega), List.drop_length, List.drop_of_length_le (by omega)]; simp
theorem boolsOf_mapB {α : Type} (xs : List α) (p : α → Bool) : boolsOf (xs.map fun x => PyData.bool (p x)) = some (xs.map p) := by
  have := boolsOf_map (xs.map p)
  rw [List.map_map] at this
  exact this
/-- all([e for ..]), e true throughout -/
theorem all_true {α : Type} {xs : List α} {p : α → Bool} (h : ∀ x ∈ xs, p x = true) : (xs.map p).all id = true := by
  rw [List.all_eq_true]
  intro b hb
  obtain ⟨x, hx, rfl⟩ := List.mem_map.mp hb
  exact h x hx
theorem oAll_read {k : List Bool → Bool} {ds : List PyData} {bs : List Bool} {b : Bool} {O : List Ob} {Q : QE} (h : boolsOf ds = some bs) (e : k bs = b) (q : Q (.d (.bool b)) O) : oAnyAll k [.d (.list ds)] O Q := by
  show (match boolsOf ds with | some is => Q (.d (.bool (k is))) O | none => False)
  rw [h]
  show Q (.d (.bool (k bs))) O
  rw [e]
  exact q
theorem boolsOf_app {α : Type} (xs : List α) (p : α → Bool) : boolsOf ([] ++ xs.map fun x => PyData.bool (p x)) = some (xs.map p) := boolsOf_mapB xs p
end PW

namespace PW
open PySem PySem.Spec PyProof.Rows L2
/-! ### the law itself -/
def pspLaw (K : PySem.W.Frag) : PSp := fun dvs O Q => ∃ ns : List Int, dvs = [.x (scriptψ K ns)] ∧ O = [] ∧ ns.length ≤ 100 ∧ Q (.d (.bool true)) []
def spLawH (K : PySem.W.Frag) : Sp := fun vs H Q _ => ∃ (a : Addr) (ns : List Int), vs = [.ref a] ∧ SqL K H a (ns.map L2.V.int) ∧ ns.length ≤ 100 ∧ ∀ H', Q (.bl true) H'
theorem law_lift {K : PySem.W.Frag} (vs : List L2.V) (H : Hp) (Q : VK) (E : XK) (h : spLawH K vs H Q E) : liftSp K (pspLaw K) vs H Q E := by
  obtain ⟨a, ns, rfl, hs, hn, k⟩ := h
  refine ⟨[], H, [.x (scriptψ K ns)], fun dv _ => dv = .d (.bool true), ⟨Same.refl _, Same.refl _, fun b o _ e => e, fun b hb => (by cases hb), fun b hb => .inl hb, fun i c e => (by simp at e), fun i c e => (by simp at e), fun i j c c' _ e => (by simp at e)⟩, .cons (fun V' s => ⟨a, rfl, s.seq hs⟩) .nil, ⟨ns, rfl, rfl, hn, rfl⟩, fun v H' S' V' dv r e d q _ => ?_⟩
  subst q
  cases d
  exact k H'
theorem walkL {l : PySem.W.OpenLaw} {q : Program} {loose : List Str} {XP : (Str → Option Value) → Heap → Prop} {YP : World → Heap → Prop} {d : DefRec} {K : Params → PySem.W.Frag} (k : Nat) (hk : Room k callerA) (hn : l.most = some 63) (hdf : d.params.defaults = [])
    (hY : ∀ (w : World) (h : Heap), YP w h → (K w.params).In h)
    (F : ∀ (w : World) (mg : Str → Option Value) (fa : Addr) (h : Heap), (K w.params).In h → h.Ns mainGlobals mg → mg d.name = some (.ref fa) →
      ∃ fd : FuncData, (∀ (s : Shared) (u : Value), BindsTo s fd ⟨[u], []⟩ [("_law_script", u)]) ∧ ∀ base : Heap, (K w.params).In base → base.Ns mainGlobals mg → FnOk l.prog w (K w.params) mg base CX0 k fa fd ["_law_script"] (liftSp (K w.params) (pspLaw (K w.params)))) :
    PySem.W.WalkO q loose XP YP l.row.toRowW d [] (fun f vs => PySem.call f vs) :=
  L2.walk_of (n := 63) (k := k) (x := "_law_script") (CX := fun _ => CX0) (sp := fun w => spLawH (K w.params)) hn (by decide) hdf hk hY (fun w mg fa h a b c => by
    obtain ⟨fd, h1, h2⟩ := F w mg fa h a b c
    exact ⟨fd, h1, fun base p q => (h2 base p q).imp law_lift⟩) (fun _ _ a ns hl _ hS => ⟨a, ns, rfl, hS, Nat.le_trans hl (by decide), fun _ => rfl⟩) fun _ _ _ _ _ z => z
end PW

namespace PW
open PySem PySem.Spec PyProof.Rows L2
/-! ### an owned list that will change no more -/
def qFrz (m : Nat) (f : PTE) : PTE := fun Γ O Q => f Γ O fun dv O1 => match dv with
  | .o i => match O1[i]? with
    | some (.lst ds) => m ≤ i ∧ Q (.d (.list ds)) (O1.set i .dead)
    | _ => False
  | .d x => Q (.d x) O1
  | .x ψ => Q (.x ψ) O1
section
variable {X : Cx} {R : Fr} {e : Expr} {f : PTE}
theorem ew_frz {m : Nat} (hR : R.Fs.length = m) (h : EW X R e f) : EW X R e (qFrz m f) := by
  intro S V H σ Γ Q r sl q
  refine wE_mono (h S V H σ Γ _ r sl q) fun v H1 ⟨S1, V1, dv, r1, e1, d1, q1⟩ => ?_
  dsimp only at q1
  split at q1
  · rename_i i
    split at q1
    · rename_i ds h1
      obtain ⟨a, xs, rfl, hc, hx, hd⟩ := own_lst r1 d1 h1
      have h0 : R.H0 a = none := by
        rcases (r1.foot i _ hc a (List.mem_singleton_self a)).2.2 with ⟨fs, z, _⟩ | z
        · have := (List.getElem?_eq_some_iff.mp z).1
          omega
        · exact z
      obtain ⟨r2, e2⟩ := r1.freeze hc hx h0
      refine ⟨_, _, .d (.list ds), r2, e1.trans e2, .lst upd_same (hd.mono e2.v), ?_⟩
      rw [obs_set]
      exact q1.2
    · exact q1.elim
  · exact ⟨S1, V1, _, r1, e1, d1, q1⟩
  · exact ⟨S1, V1, _, r1, e1, d1, q1⟩
end
section
variable {P : Program} {w : World} {K : PySem.W.Frag} {mg : Str → Option Value} {base : Heap}
/-- as fnPd; the def is handed m objects -/
theorem fnPm {x qual : Str} {st : Stmt} {f : Addr} {fd : FuncData} {N ps : List Str} {k : Nat} {psp : PSp} {F : PTS} (m : Nat) (Fn : Fun K x qual st f fd) (Sc : FnScope N ps (defScope st))
    (body : ∀ (cdv : Value) (A : Around) (outer : List Env) (s : Shared) (H : Hp) (E : XK), Room k (A.deeper (envOfC qual (defScope st) s.heap.objs.size f cdv)) → ∀ R : Fr, R.Fs.length = m → BW (cxOf CX0 P w K mg base N qual (defScope st) f cdv A outer s H E).nox R (defBody st) F)
    (h : ∀ dvs O PQ, psp dvs O PQ → (∀ x, DV.d x ∈ dvs → plain x = true) → dvs.length = ps.length ∧ O.length = m ∧ F { nx := fun _ O' => RetN m PQ (.d .none) O', rt := RetN m PQ } (startG N dvs) O) : FnOk P w K mg base CX0 (k + 1) f fd ps (liftSp K psp) := by
  refine Fn.ok Sc (fun vs H Q E q => ?_) (fun cdv A outer s H vs Q E hr q => ?_)
  · obtain ⟨S, V, dvs, PQ, r, d, q, _⟩ := q
    rw [dvs_len d]
    exact (h dvs _ PQ q (plain_dvs d)).1
  · obtain ⟨S, V, dvs, PQ, r, d, q, k⟩ := q
    obtain ⟨_, hm, hq⟩ := h dvs _ PQ q (plain_dvs d)
    have hl : (obs S).length = S.length := List.length_map ..
    have hm' : S.length = m := hl.symm.trans hm
    subst hm'
    refine ⟨_, wB_pss, body cdv A outer s H E hr (.here S V H) (List.length_map ..) S V H _ _ _ _ r (slots_start d) hq ⟨fun σ' H' ⟨S', V', Γ', r', e', sl', q'⟩ => ?_, fun v H' ⟨S', V', dv, r', e', d', q'⟩ => ?_, fun σ' H' ⟨S', V', Γ', r', e', sl', q'⟩ => q'.elim, fun σ' H' ⟨S', V', Γ', r', e', sl', q'⟩ => q'.elim⟩⟩
    · exact retn_ok k r' e' (dv := .d .none) .non q'
    · exact retn_ok k r' e' d' q'
end
/-! ### a filter; ints in a row -/
theorem rgD_app (a : Int) (m n : Nat) : rgD a (m + n) = rgD a m ++ rgD (a + m) n := by
  unfold rgD
  rw [List.range_add, List.map_append, List.map_map]
  congr 1
  refine List.map_congr_left fun i _ => ?_
  show PyData.int (a + ((m + i : Nat) : Int)) = PyData.int (a + m + (i : Int))
  congr 1
  omega
theorem rgP_mem {a : Int} {n : Nat} {d : PyData} (h : d ∈ rgD a n) : ∃ k : Int, d = .int k ∧ a ≤ k ∧ k < a + n := by
  unfold rgD at h
  obtain ⟨i, hi, rfl⟩ := List.mem_map.mp h
  rw [List.mem_range] at hi
  exact ⟨a + i, rfl, by omega, by omega⟩
/-- those of a row of ints that lie between -/
theorem rgD_filter {a A B : Int} {n : Nat} {p : PyData → Bool} (h1 : a ≤ A) (h2 : A ≤ B + 1) (h3 : B < a + n) (hp : ∀ k : Int, a ≤ k → k < a + n → (p (.int k) = true ↔ A ≤ k ∧ k ≤ B)) : (rgD a n).filter p = rgD A (B + 1 - A).toNat := by
  have e : n = (A - a).toNat + ((B + 1 - A).toNat + (a + n - B - 1).toNat) := by omega
  have e2 : rgD a n = rgD a (A - a).toNat ++ (rgD A (B + 1 - A).toNat ++ rgD (B + 1) (a + n - B - 1).toNat) := by
    conv => lhs; rw [e]
    rw [rgD_app, rgD_app]
    congr 1
    · congr 1
      · congr 1; omega
      · congr 1; omega
  rw [e2, List.filter_append, List.filter_append]
  rw [List.filter_eq_nil_iff.mpr, List.filter_eq_self.mpr, List.filter_eq_nil_iff.mpr]
  · simp
  · intro d hd
    obtain ⟨k, rfl, k1, k2⟩ := rgP_mem hd
    intro z
    have := (hp k (by omega) (by omega)).mp z
    omega
  · intro d hd
    obtain ⟨k, rfl, k1, k2⟩ := rgP_mem hd
    exact (hp k (by omega) (by omega)).mpr ⟨by omega, by omega⟩
  · intro d hd
    obtain ⟨k, rfl, k1, k2⟩ := rgP_mem hd
    intro z
    have := (hp k (by omega) (by omega)).mp z
    omega
/-- a comprehension with a test, both functions of the item -/
theorem lc_filt {ok : List Ob → Prop} {g : PTG} {t : PTT} {f : PTE} {Q : List PyData → List Ob → Prop} {Γ : PEnv} {O : List Ob} (h : DV → PyData) (p : DV → Bool) (hok : ok O) : ∀ (ds : List DV) (acc : List PyData),
    (∀ d ∈ ds, ∀ (A : List Ob → Prop) (B : QE), (p d = true → B (.d (h d)) O) → (p d = false → A O) → g d Γ O fun Γ1 O1 => t Γ1 O1 fun b O2 => match b with
      | true => f Γ1 O2 B
      | false => A O2) → Q (acc ++ (ds.filter p).map h) O → qLcGo ok g t f Q ds acc Γ O
  | [], acc, _, q => ⟨hok, by simpa using q⟩
  | d :: ds, acc, hs, q => by
    refine ⟨hok, ?_⟩
    refine hs d List.mem_cons_self (fun O2 => qLcGo ok g t f Q ds acc Γ O2) (fun dv O3 => match dv with | .d x => qLcGo ok g t f Q ds (acc ++ [x]) Γ O3 | _ => False) (fun hp => ?_) (fun hp => ?_)
    · refine lc_filt h p hok ds (acc ++ [h d]) (fun e he => hs e (List.mem_cons_of_mem _ he)) ?_
      rw [List.filter_cons, if_pos hp] at q
      simpa [List.append_assoc] using q
    · refine lc_filt h p hok ds acc (fun e he => hs e (List.mem_cons_of_mem _ he)) ?_
      rw [List.filter_cons, if_neg (by rw [hp]; simp)] at q
      exact q
theorem shaped_rg (a : Int) (n : Nat) : SeqAt.shaped (.list (rgD a n)) = true := by
  have key : ∀ xs : List Nat, PyData.canLayAll0 (xs.map fun (i : Nat) => PyData.int (a + i)) = true ∧ PyData.depthAll (xs.map fun (i : Nat) => PyData.int (a + i)) = 0 := by
    intro xs
    induction xs with
    | nil => exact ⟨rfl, rfl⟩
    | cons x xs ih =>
      obtain ⟨h1, h2⟩ := ih
      rw [List.map_cons]
      simp [PyData.canLayAll0, PyData.depthAll, PyData.canLay0, PyData.depth, h1, h2]
  obtain ⟨h1, h2⟩ := key (List.range n)
  unfold rgD
  simp [SeqAt.shaped, PyData.canLay0, PyData.depth, h1, h2]
end PW

namespace PW
open PySem PySem.Spec PyProof.Rows L2
/-! ### things that a contract of the hand layer makes go into the view -/
section
variable {K : PySem.W.Frag} {R : Fr} {S S' : List Cell} {V V' W H H' : Hp}
/-- the heap has grown, the view with it by some of what is new -/
theorem Rep.grow (r : Rep K R S V H) (s : Same H H') (sv : Same V W) (hw : Same W H') (hn : ∀ b, W b ≠ none → V b ≠ none ∨ H b = none) : Rep K R S W H' ∧ Ext S V S W := by
  have stay : ∀ (i : Nat) (c : Cell), S[i]? = some c → ∀ b ∈ c.2.1, H' b = H b := fun i c e b hb => by
    cases q : H b with
    | none => exact ((r.foot i c e b hb).2.1 q).elim
    | some o => exact s b o q
  refine ⟨⟨r.v0.trans sv, hw, fun b o hb e => s b o (r.keep b o hb e), fun b hb => ?_, fun b e => ?_, fun i c e => (r.own i c e).stay sv hw (stay i c e), fun i c e b hb => ?_, r.sep⟩, ⟨sv, fun i c h => ⟨c, h, rfl⟩⟩⟩
  · have := r.f0 b hb
    cases q : H b with
    | none => exact (this q).elim
    | some o => rw [s b o q]; simp
  · rcases hn b e with h | h
    · rcases r.vnew b h with y | y | ⟨xs, y⟩
      · exact .inl y
      · exact .inr (.inl y)
      · exact .inr (.inr ⟨xs, sv _ _ y⟩)
    · exact .inr (.inl (r.none0 h))
  · obtain ⟨h1, h2, h3⟩ := r.foot i c e b hb
    refine ⟨?_, by rw [stay i c e b hb]; exact h2, h3⟩
    cases q : W b with
    | none => rfl
    | some o =>
      rcases hn b (by rw [q]; simp) with h | h
      · exact (h h1).elim
      · exact (h2 h).elim
/-- all that is new -/
def grown (V H H' : Hp) : Hp := fun b => match H b with
  | none => H' b
  | some _ => V b
theorem grown_sv (vh : Same V H) : Same V (grown V H H') := fun b o e => by
  show (match H b with | none => H' b | some _ => V b) = some o
  rw [vh b o e]; exact e
theorem grown_hw (vh : Same V H) (s : Same H H') : Same (grown V H H') H' := fun b o e => by
  unfold grown at e
  cases q : H b with
  | none => rw [q] at e; exact e
  | some u => rw [q] at e; exact s b o (vh b o e)
theorem grown_new : ∀ b, grown V H H' b ≠ none → V b ≠ none ∨ H b = none := fun b e => by
  unfold grown at e
  cases q : H b with
  | none => exact .inr rfl
  | some u => rw [q] at e; exact .inl e
end
/-- a contract of the hand layer over things of the view alone -/
theorem lift_of {P : Program} {w : World} {K : PySem.W.Frag} {mg : Str → Option Value} {base : Heap} {k : Nat} {f : Addr} {fd : FuncData} {ps : List Str} {sp : Sp} {psp : PSp} (F : FnOk P w K mg base CX0 k f fd ps sp) (h0 : ∀ dvs O PQ, psp dvs O PQ → O = [])
    (h : ∀ (V H : Hp) (vs : List L2.V) (dvs : List DV) (PQ : QE), Same V H → DVs K [] V vs dvs → psp dvs [] PQ → ∀ (Q : VK) (E : XK),
      (∀ (v : L2.V) (H' W : Hp) (dv : DV), Same H H' → Same V W → Same W H' → (∀ b, W b ≠ none → V b ≠ none ∨ H b = none) → DVat K [] W v dv → PQ dv [] → Q v H') → sp vs H Q E) : FnOk P w K mg base CX0 k f fd ps (liftSp K psp) := by
  refine F.imp fun vs H Q E ⟨S, V, dvs, PQ, r, d, q, k⟩ => ?_
  have hS : S = [] := by
    have := h0 _ _ _ q
    unfold obs at this
    exact List.map_eq_nil_iff.mp this
  subst hS
  exact h V H vs dvs PQ r.vh d q Q E fun v H' W dv s1 s2 s3 s4 dd pq => k v H' [] W dv (r.grow s1 s2 s3 s4).1 (r.grow s1 s2 s3 s4).2 dd pq (Nat.le_refl _)
/-! ### instances and dicts that do not change; tracked tuples -/
theorem DVat.any {K : PySem.W.Frag} {S S' : List Cell} {V : Hp} {v : L2.V} : ∀ {dv : DV}, (∀ i, dv ≠ .o i) → DVat K S V v dv → DVat K S' V v dv
  | .d x, _, h => h
  | .x ψ, _, h => h
  | .o i, n, _ => (n i rfl).elim
/-- an instance: its class, what its fields hold -/
def insψ (K : PySem.W.Frag) (C : Addr) (fl : List (Str × DV)) : Hp → L2.V → Prop := fun V v => ∃ a dx gs, v = .ref a ∧ V a = some (.ins C dx gs) ∧ Paired (fun (g : Str × L2.V) (p : Str × DV) => g.1 = p.1 ∧ DVat K [] V g.2 p.2) gs fl
/-- a dict whose keys are tuples of texts -/
def dTψ (K : PySem.W.Frag) (kvs : List (List Key × PyData)) : Hp → L2.V → Prop := fun V v => ∃ a ws, v = .ref a ∧ V a = some (.dT ws) ∧ ws.map (·.1) = kvs.map (·.1) ∧ DqL K V (ws.map (·.2)) (kvs.map (·.2))
/-- a dict whose keys are texts or ints -/
def dKψ (K : PySem.W.Frag) (kvs : List (Key × PyData)) : Hp → L2.V → Prop := fun V v => ∃ a ws, v = .ref a ∧ V a = some (.dK ws) ∧ ws.map (·.1) = kvs.map (·.1) ∧ DqL K V (ws.map (·.2)) (kvs.map (·.2))
/-- a tuple that can be a key -/
def keyψ (ks : List Key) : Hp → L2.V → Prop := fun V v => ∃ a, v = .ref a ∧ V a = some (.tup (ks.map kV))
section
variable {K : PySem.W.Frag} {V V' : Hp} {v : L2.V}
theorem ins_mono {C : Addr} {fl : List (Str × DV)} (s : Same V V') (h : insψ K C fl V v) : insψ K C fl V' v := by
  obtain ⟨a, dx, gs, e, h1, h2⟩ := h
  exact ⟨a, dx, gs, e, s _ _ h1, Paired.mapP h2 fun g p z => ⟨z.1, z.2.mono ⟨s, fun i c q => ⟨c, q, rfl⟩⟩⟩⟩
theorem dT_mono {kvs : List (List Key × PyData)} (s : Same V V') (h : dTψ K kvs V v) : dTψ K kvs V' v := by
  obtain ⟨a, ws, e, h1, h2, h3⟩ := h
  exact ⟨a, ws, e, s _ _ h1, h2, h3.mono s⟩
theorem dK_mono {kvs : List (Key × PyData)} (s : Same V V') (h : dKψ K kvs V v) : dKψ K kvs V' v := by
  obtain ⟨a, ws, e, h1, h2, h3⟩ := h
  exact ⟨a, ws, e, s _ _ h1, h2, h3.mono s⟩
theorem key_mono {ks : List Key} (s : Same V V') (h : keyψ ks V v) : keyψ ks V' v := by
  obtain ⟨a, e, h⟩ := h
  exact ⟨a, e, s _ _ h⟩
theorem ins_look {fl : List (Str × DV)} {gs : List (Str × L2.V)} {f : Str} : Paired (fun (g : Str × L2.V) (p : Str × DV) => g.1 = p.1 ∧ DVat K [] V g.2 p.2) gs fl →
    (fl.lookup f = none → gs.lookup f = none) ∧ ∀ dv, fl.lookup f = some dv → ∃ u, gs.lookup f = some u ∧ DVat K [] V u dv
  | .nil => ⟨fun _ => rfl, fun dv e => by cases e⟩
  | @Paired.cons _ _ _ g p gs' fl' h t => by
    obtain ⟨ih1, ih2⟩ := ins_look (f := f) t
    obtain ⟨gn, gv⟩ := g
    obtain ⟨pn, pv⟩ := p
    obtain ⟨e, hd⟩ := h
    dsimp only at e hd
    subst e
    rw [List.lookup_cons, List.lookup_cons]
    cases q : f == gn with
    | true => exact ⟨(fun z => by cases z), fun dv z => by cases z; exact ⟨gv, rfl, hd⟩⟩
    | false => exact ⟨ih1, ih2⟩
end
section
variable {X : Cx} {R : Fr} {o e a b : Expr} {es : List Expr} {f g : PTE} {fs : PTA} {pos p apos : Pos}
/-- e.name: an instance that does not change -/
def qFld (K : PySem.W.Frag) (C : Addr) (nm : Str) (f : PTE) : PTE := fun Γ O Q => f Γ O fun x O1 => ∃ fl, x = .x (insψ K C fl) ∧ match fl.lookup nm with
  | some (.d y) => Q (.d y) O1
  | some (.x ψ) => Q (.x ψ) O1
  | _ => False
theorem ew_fld {C : Addr} {nm : Str} (c : Cls X.K C) (na : NoAttr X.K C nm) (ho : EW X R o f) (hb : attributeBase o nm X.env (eval o X.env) = eval o X.env := by rfl) : EW X R (.Attribute o nm pos) (qFld X.K C nm f) := by
  intro S V H σ Γ Q r sl q
  refine wE_of (pe_fld wE_pe hb) (wE_mono (ho S V H σ Γ _ r sl q) fun v H1 ⟨S1, V1, dv, r1, e1, d1, fl, h, q1⟩ => ?_)
  subst h
  obtain ⟨a, dx, gs, rfl, h1, h2⟩ := d1 V1 (Same.refl _)
  split at q1
  · rename_i y hy
    obtain ⟨u, hu, du⟩ := (ins_look h2).2 _ hy
    exact ⟨a, C, dx, gs, u, rfl, r1.vh _ _ h1, c, na, hu, PostE.ext e1 (.here r1 (dv := .d y) (DVat.any (fun i z => by cases z) du) q1)⟩
  · rename_i ψ hy
    obtain ⟨u, hu, du⟩ := (ins_look h2).2 _ hy
    exact ⟨a, C, dx, gs, u, rfl, r1.vh _ _ h1, c, na, hu, PostE.ext e1 (.here r1 (dv := .x ψ) (DVat.any (fun i z => by cases z) du) q1)⟩
  · exact q1.elim
/-- e.m(..): a method of an instance that does not change -/
def qMeth (K : PySem.W.Frag) (C : Addr) (m : Str) (psp : PSp) (f : PTE) (fs : PTA) : PTE := fun Γ O Q => f Γ O fun x O1 => (∃ fl, x = .x (insψ K C fl) ∧ fl.lookup m = none) ∧ fs Γ O1 fun dvs O2 => qApp psp (x :: dvs) O2 Q
theorem ew_meth0 {pl : Sem Bool} {C fa : Addr} {fd : FuncData} {m : Str} {ps : List Str} {k : Nat} {psp : PSp} (c : Cls X.K C) (hm : Meth X.K C m fa) (F : FnOk X.prog X.w X.K X.mg X.base CX0 k fa fd ps (liftSp X.K psp)) (hr : Room k X.A) (hb : Binds X.K fd ps []) (ho : EW X R o f)
    (ht : eval (.Call (.Attribute o m apos) [] [] pos) X.env = (do
      let ov ← eval o X.env
      standAt apos.atName
      let (f, first) ← holding [ov] (getMethod ov m pl)
      callWith pos f first (backTo pos (starEach [] X.env)) (backToKw pos (keywordEach [] X.env))) := by rfl) : EW X R (.Call (.Attribute o m apos) [] [] pos) (qMeth X.K C m psp f qNil) := by
  intro S V H σ Γ Q r sl q
  refine wE_of (pe_meth0 wE_pe c hm F hr hb .nil pass0 ht) (wE_mono (ho S V H σ Γ _ r sl q) fun v H1 ⟨S1, V1, dv, r1, e1, d1, ⟨fl, h, hl⟩, q1⟩ => ?_)
  subst h
  obtain ⟨a, dx, gs, rfl, h1, h2⟩ := id (d1 V1 (Same.refl _))
  refine ⟨a, dx, gs, rfl, r1.vh _ _ h1, (ins_look h2).1 hl, ?_⟩
  have h := app_ok (E := E0) r1 (Paired.cons d1 Paired.nil) q1
  obtain ⟨S2, V2, dvs2, PQ, h1, h2, h3, h4⟩ := h
  exact ⟨S2, V2, dvs2, PQ, h1, h2, h3, fun v H' S' V' dv a b c d g => PostE.ext e1 (h4 v H' S' V' dv a b c d g)⟩
theorem ew_meth {pl : Sem Bool} {C fa : Addr} {fd : FuncData} {m : Str} {ps : List Str} {k : Nat} {psp : PSp} (c : Cls X.K C) (hm : Meth X.K C m fa) (F : FnOk X.prog X.w X.K X.mg X.base CX0 k fa fd ps (liftSp X.K psp)) (hr : Room k X.A) (hb : Binds X.K fd ps []) (ho : EW X R o f) (ha : AW X R (e :: es) fs)
    (hst : starEach (e :: es) X.env = (false, eval e X.env) :: starEach es X.env := by rfl) (hpl : (backTo pos (starEach es X.env)).any (·.1) = false := by rfl)
    (ht : eval (.Call (.Attribute o m apos) (e :: es) [] pos) X.env = (do
      let ov ← eval o X.env
      standAt apos.atName
      let (f, first) ← holding [ov] (getMethod ov m pl)
      callWith pos f first (backTo pos (starEach (e :: es) X.env)) (backToKw pos (keywordEach [] X.env))) := by rfl) : EW X R (.Call (.Attribute o m apos) (e :: es) [] pos) (qMeth X.K C m psp f fs) := by
  intro S V H σ Γ Q r sl q
  refine wE_of (pe_meth wE_pe c hm F hr hb .nil pass0 wA_pa hst hpl ht) (wE_mono (ho S V H σ Γ _ r sl q) fun v H1 ⟨S1, V1, dv, r1, e1, d1, ⟨fl, h, hl⟩, q1⟩ => ?_)
  subst h
  obtain ⟨a, dx, gs, rfl, h1, h2⟩ := id (d1 V1 (Same.refl _))
  refine ⟨a, dx, gs, rfl, r1.vh _ _ h1, (ins_look h2).1 hl, wA_mono (ha S1 V1 H1 σ Γ _ r1 (sl.mono e1) q1) fun vs H2 ⟨S2, V2, dvs, r2, e2, d2, q2⟩ => ?_⟩
  have h := app_ok (E := E0) r2 (Paired.cons (d1.mono e2) d2) q2
  rw [List.append_nil]
  obtain ⟨S3, V3, dvs3, PQ, h1, h2, h3, h4⟩ := h
  exact ⟨S3, V3, dvs3, PQ, h1, h2, h3, fun v H' S' V' dv a b c d g => PostE.ext (e1.trans e2) (h4 v H' S' V' dv a b c d g)⟩
/-! ### keys, dicts -/
def keyD : Key → PyData
  | .inl i => .int i
  | .inr z => .str z
def dKey : PyData → Option Key
  | .int i => some (.inl i)
  | .str z => some (.inr z)
  | _ => none
def dKeys : List PyData → Option (List Key)
  | [] => some []
  | d :: ds => match dKey d, dKeys ds with
    | some k, some ks => some (k :: ks)
    | _, _ => none
theorem dKeys_v {K : PySem.W.Frag} {V : Hp} : ∀ {ds : List PyData} {vs : List L2.V} {ks : List Key}, DqL K V vs ds → dKeys ds = some ks → vs = ks.map kV
  | [], _, ks, h, e => by cases h; cases e; rfl
  | d :: ds, _, ks, h, e => by
    cases h with
    | cons h1 h2 =>
      unfold dKeys at e
      split at e
      · rename_i k ks' e1 e2
        cases e
        rw [dKeys_v h2 e2]
        cases d with
        | int i => cases h1; cases e1; rfl
        | str i => cases h1; cases e1; rfl
        | _ => cases e1
      · cases e
/-- (a, b, ..) that will be a key -/
def qTupK (fs : PTA) : PTE := fun Γ O Q => fs Γ O fun dvs O1 => match dats dvs, small dvs.length with
  | some ds, true => match dKeys ds with
    | some ks => Q (.x (keyψ ks)) O1
    | none => False
  | _, _ => False
end
end PW

namespace PW
open PySem PySem.Spec PyProof.Rows L2
/-! ### dicts -/
section
variable {κ : Type} [DecidableEq κ]
def valD (kvs : List (κ × PyData)) (k : κ) : Option PyData := (kvs.find? fun kv => decide (kv.1 = k)).map (·.2)
def putD (kvs : List (κ × PyData)) (k : κ) (d : PyData) : List (κ × PyData) :=
  if (kvs.any fun kv => decide (kv.1 = k)) = true then kvs.map (fun kv => if kv.1 = k then (kv.1, d) else kv) else kvs ++ [(k, d)]
theorem valD_dq {K : PySem.W.Frag} {V : Hp} {k : κ} : ∀ {kvs : List (κ × PyData)} {ws : List (κ × L2.V)}, ws.map (·.1) = kvs.map (·.1) → DqL K V (ws.map (·.2)) (kvs.map (·.2)) →
    (valD kvs k = none → valV ws k = none) ∧ ∀ d, valD kvs k = some d → ∃ v, valV ws k = some v ∧ Dq K V v d
  | [], [], _, _ => ⟨fun _ => rfl, fun d e => by cases e⟩
  | [], _ :: _, h, _ => by cases h
  | _ :: _, [], h, _ => by cases h
  | (k1, d1) :: kvs, (k2, v2) :: ws, h, h2 => by
    have hk : k2 = k1 := (List.cons.inj h).1
    have ht := (List.cons.inj h).2
    subst hk
    cases h2 with
    | cons g1 g2 =>
      obtain ⟨i1, i2⟩ := valD_dq (k := k) ht g2
      unfold valD valV
      rw [List.find?_cons, List.find?_cons]
      by_cases q : k2 = k
      · rw [show (decide (((k2, d1) : κ × PyData).1 = k)) = true from decide_eq_true q]
        exact ⟨(fun z => by cases z), (fun d z => by cases z; exact ⟨v2, rfl, g1⟩)⟩
      · rw [show (decide (((k2, d1) : κ × PyData).1 = k)) = false from decide_eq_false q]
        exact ⟨i1, i2⟩
theorem any_keys {α β : Type} {k : κ} : ∀ {xs : List (κ × α)} {ys : List (κ × β)}, xs.map (·.1) = ys.map (·.1) → (xs.any fun kv => decide (kv.1 = k)) = (ys.any fun kv => decide (kv.1 = k))
  | [], [], _ => rfl
  | [], _ :: _, h => by cases h
  | _ :: _, [], h => by cases h
  | x :: xs, y :: ys, h => by
    have h1 : x.1 = y.1 := (List.cons.inj h).1
    rw [List.any_cons, List.any_cons, h1, any_keys (List.cons.inj h).2]
theorem putD_dq {K : PySem.W.Frag} {V : Hp} {k : κ} {v : L2.V} {d : PyData} (hv : Dq K V v d) {kvs : List (κ × PyData)} {ws : List (κ × L2.V)} (h : ws.map (·.1) = kvs.map (·.1)) (h2 : DqL K V (ws.map (·.2)) (kvs.map (·.2))) :
    (putK ws k v).map (·.1) = (putD kvs k d).map (·.1) ∧ DqL K V ((putK ws k v).map (·.2)) ((putD kvs k d).map (·.2)) := by
  unfold putK putD
  rw [any_keys h]
  split
  · have key : ∀ {kvs : List (κ × PyData)} {ws : List (κ × L2.V)}, ws.map (·.1) = kvs.map (·.1) → DqL K V (ws.map (·.2)) (kvs.map (·.2)) →
        (ws.map fun kv => if kv.1 = k then (kv.1, v) else kv).map (·.1) = (kvs.map fun kv => if kv.1 = k then (kv.1, d) else kv).map (·.1) ∧
        DqL K V ((ws.map fun kv => if kv.1 = k then (kv.1, v) else kv).map (·.2)) ((kvs.map fun kv => if kv.1 = k then (kv.1, d) else kv).map (·.2)) := by
      intro kvs
      induction kvs with
      | nil =>
        intro ws h h2
        cases ws with
        | nil => exact ⟨rfl, .nil⟩
        | cons _ _ => cases h
      | cons x kvs ih =>
        intro ws h h2
        cases ws with
        | nil => cases h
        | cons y ws =>
          have h1 : y.1 = x.1 := (List.cons.inj h).1
          cases h2 with
          | cons g1 g2 =>
            obtain ⟨i1, i2⟩ := ih (List.cons.inj h).2 g2
            simp only [List.map_cons]
            by_cases q : x.1 = k
            · rw [if_pos q, if_pos (h1.trans q)]
              exact ⟨by rw [i1]; show y.1 :: _ = x.1 :: _; rw [h1], .cons hv i2⟩
            · rw [if_neg q, if_neg (fun z => q (h1.symm.trans z))]
              exact ⟨by rw [i1, h1], .cons g1 i2⟩
    exact key h h2
  · simp only [List.map_append, List.map_cons, List.map_nil]
    exact ⟨by rw [h], h2.append (DqL.one hv)⟩
theorem putD_length (kvs : List (κ × PyData)) (k : κ) (d : PyData) : (putD kvs k d).length ≤ kvs.length + 1 := by
  unfold putD
  split
  · rw [List.length_map]; omega
  · simp
end
/-- dv is a dict whose keys are tuples -/
def IsDT (K : PySem.W.Frag) (x : DV) (O : List Ob) (kvs : List (List Key × PyData)) : Prop := x = .x (dTψ K kvs) ∨ ∃ i, x = .o i ∧ O[i]? = some (.dT kvs)
def IsDK (K : PySem.W.Frag) (x : DV) (O : List Ob) (kvs : List (Key × PyData)) : Prop := x = .x (dKψ K kvs) ∨ ∃ i, x = .o i ∧ O[i]? = some (.dK kvs)
section
variable {K : PySem.W.Frag} {R : Fr} {S S' : List Cell} {V V' H H' : Hp} {v : L2.V} {x : DV}
theorem own_dT {i : Nat} {kvs : List (List Key × PyData)} (r : Rep K R S V H) (d : DVat K S V v (.o i)) (h : (obs S)[i]? = some (.dT kvs)) : ∃ a ws, v = .ref a ∧ S[i]? = some (a, [a], .dT kvs) ∧ H a = some (.dT ws) ∧ ws.map (·.1) = kvs.map (·.1) ∧ DqL K V (ws.map (·.2)) (kvs.map (·.2)) := by
  obtain ⟨c, hc, rfl⟩ := d
  obtain ⟨c', hc', ho⟩ := obs_get h
  rw [hc] at hc'; cases hc'
  have := r.own i c hc
  rw [ho] at this
  obtain ⟨h1, xs, h2, h3, h4⟩ := this
  obtain ⟨a, fs, o⟩ := c
  dsimp only at h1 h2 ho
  subst h1 ho
  exact ⟨a, xs, rfl, hc, h2, h3, h4⟩
theorem own_dK {i : Nat} {kvs : List (Key × PyData)} (r : Rep K R S V H) (d : DVat K S V v (.o i)) (h : (obs S)[i]? = some (.dK kvs)) : ∃ a ws, v = .ref a ∧ S[i]? = some (a, [a], .dK kvs) ∧ H a = some (.dK ws) ∧ ws.map (·.1) = kvs.map (·.1) ∧ DqL K V (ws.map (·.2)) (kvs.map (·.2)) := by
  obtain ⟨c, hc, rfl⟩ := d
  obtain ⟨c', hc', ho⟩ := obs_get h
  rw [hc] at hc'; cases hc'
  have := r.own i c hc
  rw [ho] at this
  obtain ⟨h1, xs, h2, h3, h4⟩ := this
  obtain ⟨a, fs, o⟩ := c
  dsimp only at h1 h2 ho
  subst h1 ho
  exact ⟨a, xs, rfl, hc, h2, h3, h4⟩
theorem isDT_at {kvs : List (List Key × PyData)} (r : Rep K R S V H) (d : DVat K S V v x) (h : IsDT K x (obs S) kvs) : ∃ a ws, v = .ref a ∧ H a = some (.dT ws) ∧ ws.map (·.1) = kvs.map (·.1) ∧ DqL K V (ws.map (·.2)) (kvs.map (·.2)) := by
  rcases h with rfl | ⟨i, rfl, h⟩
  · obtain ⟨a, ws, e, h1, h2, h3⟩ := d V (Same.refl _)
    exact ⟨a, ws, e, r.vh _ _ h1, h2, h3⟩
  · obtain ⟨a, ws, e, _, h1, h2, h3⟩ := own_dT r d h
    exact ⟨a, ws, e, h1, h2, h3⟩
theorem isDK_at {kvs : List (Key × PyData)} (r : Rep K R S V H) (d : DVat K S V v x) (h : IsDK K x (obs S) kvs) : ∃ a ws, v = .ref a ∧ H a = some (.dK ws) ∧ ws.map (·.1) = kvs.map (·.1) ∧ DqL K V (ws.map (·.2)) (kvs.map (·.2)) := by
  rcases h with rfl | ⟨i, rfl, h⟩
  · obtain ⟨a, ws, e, h1, h2, h3⟩ := d V (Same.refl _)
    exact ⟨a, ws, e, r.vh _ _ h1, h2, h3⟩
  · obtain ⟨a, ws, e, _, h1, h2, h3⟩ := own_dK r d h
    exact ⟨a, ws, e, h1, h2, h3⟩
theorem key_at {ks : List Key} (r : Rep K R S V H) (d : DVat K S V v (.x (keyψ ks))) : ∃ b, v = .ref b ∧ H b = some (.tup (ks.map kV)) := by
  obtain ⟨b, e, h⟩ := d V (Same.refl _)
  exact ⟨b, e, r.vh _ _ h⟩
theorem key_dq {d : PyData} {k : Key} (h : Dq K V v d) (e : dKey d = some k) : v = kV k := by
  cases d with
  | int i => cases h; cases e; rfl
  | str i => cases h; cases e; rfl
  | _ => cases e
end
section
variable {X : Cx} {R : Fr} {o e a b i value : Expr} {es : List Expr} {f g h : PTE} {fs : PTA} {pos pos' p apos cpos : Pos}
theorem ew_tupK {x1} (ha : AW X R es fs) : EW X R (.Tuple es x1 pos) (qTupK fs) := by
  intro S V H σ Γ Q r sl q
  refine wE_of (pe_tup wA_pa) (wA_mono (ha S V H σ Γ _ r sl q) fun vs H1 ⟨S1, V1, dvs, r1, e1, d1, q1⟩ => ?_)
  dsimp only at q1
  split at q1
  · rename_i ds h1 h2
    split at q1
    · rename_i ks hk
      have hd := dats_dq d1 h1
      have hv := dKeys_v hd hk
      refine ⟨small_line h2 (dvs_len d1), fun p hp => ?_⟩
      obtain ⟨r2, e2⟩ := r1.new (o := .tup vs) hp
      exact PostE.ext (e1.trans e2) (.here r2 (dv := .x (keyψ ks)) (fun V' s => ⟨p, rfl, s _ _ (by rw [upd_same, hv])⟩) q1)
    · exact q1.elim
  · exact q1.elim
/-- d[k] -/
def qDGetT (K : PySem.W.Frag) (f g : PTE) : PTE := fun Γ O Q => f Γ O fun x O1 => g Γ O1 fun y O2 => ∃ kvs ks d, IsDT K x O2 kvs ∧ y = .x (keyψ ks) ∧ valD kvs ks = some d ∧ Q (.d d) O2
def qDGetK (K : PySem.W.Frag) (f g : PTE) : PTE := fun Γ O Q => f Γ O fun x O1 => g Γ O1 fun y O2 => ∃ kvs z k d, IsDK K x O2 kvs ∧ y = .d z ∧ dKey z = some k ∧ valD kvs k = some d ∧ Q (.d d) O2
theorem ew_dgetT (hu : X.A.units + 65 < cLine) (ho : EW X R o f) (hi : EW X R i g) (hs : NoSl i := by exact fun _ _ => rfl) : EW X R (.Subscript o i pos) (qDGetT X.K f g) := by
  intro S V H σ Γ Q r sl q
  refine wE_of (pe_dget (by omega) wE_pe wE_pe hs) (wE_mono (ho S V H σ Γ _ r sl q) fun v H1 ⟨S1, V1, da, r1, e1, d1, q1⟩ => wE_mono (hi S1 V1 H1 σ Γ _ r1 (sl.mono e1) q1) fun u H2 ⟨S2, V2, db, r2, e2, d2, kvs, ks, d, h1, h2, h3, q2⟩ => ?_)
  subst h2
  obtain ⟨a, ws, rfl, w1, w2, w3⟩ := isDT_at r2 (d1.mono e2) h1
  obtain ⟨b, rfl, k1⟩ := key_at r2 d2
  obtain ⟨z, hz, dz⟩ := (valD_dq w2 w3).2 _ h3
  exact ⟨a, z, rfl, by rw [← hz]; exact .t w1 k1, PostE.ext (e1.trans e2) (.hd r2 dz q2)⟩
theorem ew_dgetK (hu : X.A.units + 65 < cLine) (ho : EW X R o f) (hi : EW X R i g) (hs : NoSl i := by exact fun _ _ => rfl) : EW X R (.Subscript o i pos) (qDGetK X.K f g) := by
  intro S V H σ Γ Q r sl q
  refine wE_of (pe_dget (by omega) wE_pe wE_pe hs) (wE_mono (ho S V H σ Γ _ r sl q) fun v H1 ⟨S1, V1, da, r1, e1, d1, q1⟩ => wE_mono (hi S1 V1 H1 σ Γ _ r1 (sl.mono e1) q1) fun u H2 ⟨S2, V2, db, r2, e2, d2, kvs, z, k, d, h1, h2, hk, h3, q2⟩ => ?_)
  subst h2
  obtain ⟨a, ws, rfl, w1, w2, w3⟩ := isDK_at r2 (d1.mono e2) h1
  obtain rfl := key_dq d2 hk
  obtain ⟨z, hz, dz⟩ := (valD_dq w2 w3).2 _ h3
  exact ⟨a, z, rfl, by rw [← hz]; exact .k w1, PostE.ext (e1.trans e2) (.hd r2 dz q2)⟩
/-- d.get(k, x) -/
def qDGet2T (K : PySem.W.Frag) (f g h : PTE) : PTE := fun Γ O Q => f Γ O fun x O1 => (∃ kvs, IsDT K x O1 kvs) ∧ g Γ O1 fun y O2 => h Γ O2 fun z O3 => ∃ kvs ks d, IsDT K x O3 kvs ∧ y = .x (keyψ ks) ∧ z = .d d ∧ Q (.d ((valD kvs ks).getD d)) O3
def qDGet2K (K : PySem.W.Frag) (f g h : PTE) : PTE := fun Γ O Q => f Γ O fun x O1 => (∃ kvs, IsDK K x O1 kvs) ∧ g Γ O1 fun y O2 => h Γ O2 fun z O3 => ∃ kvs c k d, IsDK K x O3 kvs ∧ y = .d c ∧ dKey c = some k ∧ z = .d d ∧ Q (.d ((valD kvs k).getD d)) O3
theorem ew_dget2T (hu : X.A.units + 65 < cLine) (ho : EW X R o f) (he : EW X R a g) (hf : EW X R b h) (m : M2 X o "get" apos a b cpos) : EW X R (.Call (.Attribute o "get" apos) [a, b] [] cpos) (qDGet2T X.K f g h) := by
  intro S V H σ Γ Q r sl q
  refine wE_of (pe_dget2 (by omega) wE_pe wE_pe wE_pe m) (wE_mono (ho S V H σ Γ _ r sl q) fun v H1 ⟨S1, V1, da, r1, e1, d1, ⟨kvs0, h0⟩, q1⟩ => ?_)
  obtain ⟨a0, ws0, ea, w0, _, _⟩ := isDT_at r1 d1 h0
  refine ⟨a0, ea, .inr ⟨ws0, .inl w0⟩, wE_mono (he S1 V1 H1 σ Γ _ r1 (sl.mono e1) q1) fun u H2 ⟨S2, V2, db, r2, e2, d2, q2⟩ => wE_mono (hf S2 V2 H2 σ Γ _ r2 (sl.mono (e1.trans e2)) q2) fun t H3 ⟨S3, V3, dc, r3, e3, d3, kvs, ks, d, h1, h2, h4, q3⟩ => ?_⟩
  subst h2 h4
  obtain ⟨a1, ws, ea1, w1, w2, w3⟩ := isDT_at r3 ((d1.mono e2).mono e3) h1
  rw [ea] at ea1
  cases ea1
  obtain ⟨b1, rfl, k1⟩ := key_at r3 (d2.mono e3)
  obtain ⟨g1, g2⟩ := valD_dq (k := ks) w2 w3
  refine ⟨valV ws ks, .t w1 k1, PostE.ext ((e1.trans e2).trans e3) ?_⟩
  cases q : valD kvs ks with
  | none =>
    rw [g1 q]
    rw [q] at q3
    exact .hd r3 d3 q3
  | some d' =>
    obtain ⟨z, hz, dz⟩ := g2 _ q
    rw [hz]
    rw [q] at q3
    exact .hd r3 dz q3
theorem ew_dget2K (hu : X.A.units + 65 < cLine) (ho : EW X R o f) (he : EW X R a g) (hf : EW X R b h) (m : M2 X o "get" apos a b cpos) : EW X R (.Call (.Attribute o "get" apos) [a, b] [] cpos) (qDGet2K X.K f g h) := by
  intro S V H σ Γ Q r sl q
  refine wE_of (pe_dget2 (by omega) wE_pe wE_pe wE_pe m) (wE_mono (ho S V H σ Γ _ r sl q) fun v H1 ⟨S1, V1, da, r1, e1, d1, ⟨kvs0, h0⟩, q1⟩ => ?_)
  obtain ⟨a0, ws0, ea, w0, _, _⟩ := isDK_at r1 d1 h0
  refine ⟨a0, ea, .inl ⟨ws0, .inl w0⟩, wE_mono (he S1 V1 H1 σ Γ _ r1 (sl.mono e1) q1) fun u H2 ⟨S2, V2, db, r2, e2, d2, q2⟩ => wE_mono (hf S2 V2 H2 σ Γ _ r2 (sl.mono (e1.trans e2)) q2) fun t H3 ⟨S3, V3, dc, r3, e3, d3, kvs, c, k, d, h1, h2, hk, h4, q3⟩ => ?_⟩
  subst h2 h4
  obtain ⟨a1, ws, ea1, w1, w2, w3⟩ := isDK_at r3 ((d1.mono e2).mono e3) h1
  rw [ea] at ea1
  cases ea1
  obtain rfl := key_dq (d2.mono e3) hk
  obtain ⟨g1, g2⟩ := valD_dq (k := k) w2 w3
  refine ⟨valV ws k, .k w1, PostE.ext ((e1.trans e2).trans e3) ?_⟩
  cases q : valD kvs k with
  | none =>
    rw [g1 q]
    rw [q] at q3
    exact .hd r3 d3 q3
  | some d' =>
    obtain ⟨z, hz, dz⟩ := g2 _ q
    rw [hz]
    rw [q] at q3
    exact .hd r3 dz q3
/-- {}: a dict that will be filled -/
def qDNewT : PTE := fun _ O Q => Q (.o O.length) (O ++ [.dT []])
def qDNewK : PTE := fun _ O Q => Q (.o O.length) (O ++ [.dK []])
/-- d[k] = x -/
def qDPutT (f g h : PTE) : PTS := fun PD Γ O => h Γ O fun z O1 => f Γ O1 fun x O2 => g Γ O2 fun y O3 => ∃ n kvs ks d, x = .o n ∧ O3[n]? = some (.dT kvs) ∧ y = .x (keyψ ks) ∧ z = .d d ∧ kvs.length < 100000 ∧ PD.nx Γ (O3.set n (.dT (putD kvs ks d)))
def qDPutK (f g h : PTE) : PTS := fun PD Γ O => h Γ O fun z O1 => f Γ O1 fun x O2 => g Γ O2 fun y O3 => ∃ n kvs c k d, x = .o n ∧ O3[n]? = some (.dK kvs) ∧ y = .d c ∧ dKey c = some k ∧ z = .d d ∧ kvs.length < 100000 ∧ PD.nx Γ (O3.set n (.dK (putD kvs k d)))
theorem len_line {n : Nat} (h : n < 100000) : n < sizeLine := by
  have hs : sizeLine = 16777216 := sizeLine_eq
  omega
theorem sw_dputT (hu : X.A.units + 65 < cLine) (ho : EW X R o f) (hi : EW X R i g) (hv : EW X R value h) (hs : swapsWith value (some (.Subscript o i pos')) pos.line X.env = pure false := by rfl) : SW X R (.Assign [.Subscript o i pos'] value pos) (qDPutT f g h) := by
  intro S V H σ Γ PD D r sl q k
  refine wS_of (ps_dput (by omega) wE_pe wE_pe wE_pe hs) (wE_mono (hv S V H σ Γ _ r sl q) fun v H1 ⟨S1, V1, dz, r1, e1, d1, q1⟩ => wE_mono (ho S1 V1 H1 σ Γ _ r1 (sl.mono e1) q1) fun u H2 ⟨S2, V2, dx, r2, e2, d2, q2⟩ =>
    wE_mono (hi S2 V2 H2 σ Γ _ r2 (sl.mono (e1.trans e2)) q2) fun t H3 ⟨S3, V3, dy, r3, e3, d3, n, kvs, ks, d, h1, h2, h4, h5, h6, q3⟩ => ?_)
  subst h1 h4 h5
  obtain ⟨a, ws, rfl, hc, w1, w2, w3⟩ := own_dT r3 (d2.mono e3) h2
  obtain ⟨b1, rfl, k1⟩ := key_at r3 d3
  have hl : ws.length = kvs.length := by
    have := congrArg List.length w2
    simpa using this
  obtain ⟨p1, p2⟩ := putD_dq (k := ks) (((d1.mono e2).mono e3 : DVat X.K S3 V3 v (.d d))) w2 w3
  obtain ⟨r4, e4⟩ := r3.put (o := .dT (putK ws ks v)) (ob' := .dT (putD kvs ks d)) hc ⟨rfl, _, upd_same, p1, p2⟩
  refine ⟨a, _, rfl, .t w1 k1 (by rw [hl]; exact len_line h6), k.nx _ _ ⟨_, _, _, r4, ((e1.trans e2).trans e3).trans e4, sl.mono (((e1.trans e2).trans e3).trans e4), ?_⟩⟩
  rw [obs_set]
  exact q3
theorem sw_dputK (hu : X.A.units + 65 < cLine) (ho : EW X R o f) (hi : EW X R i g) (hv : EW X R value h) (hs : swapsWith value (some (.Subscript o i pos')) pos.line X.env = pure false := by rfl) : SW X R (.Assign [.Subscript o i pos'] value pos) (qDPutK f g h) := by
  intro S V H σ Γ PD D r sl q k
  refine wS_of (ps_dput (by omega) wE_pe wE_pe wE_pe hs) (wE_mono (hv S V H σ Γ _ r sl q) fun v H1 ⟨S1, V1, dz, r1, e1, d1, q1⟩ => wE_mono (ho S1 V1 H1 σ Γ _ r1 (sl.mono e1) q1) fun u H2 ⟨S2, V2, dx, r2, e2, d2, q2⟩ =>
    wE_mono (hi S2 V2 H2 σ Γ _ r2 (sl.mono (e1.trans e2)) q2) fun t H3 ⟨S3, V3, dy, r3, e3, d3, n, kvs, c, kk, d, h1, h2, h4, hk, h5, h6, q3⟩ => ?_)
  subst h1 h4 h5
  obtain ⟨a, ws, rfl, hc, w1, w2, w3⟩ := own_dK r3 (d2.mono e3) h2
  obtain rfl := key_dq d3 hk
  have hl : ws.length = kvs.length := by
    have := congrArg List.length w2
    simpa using this
  obtain ⟨p1, p2⟩ := putD_dq (k := kk) (((d1.mono e2).mono e3 : DVat X.K S3 V3 v (.d d))) w2 w3
  obtain ⟨r4, e4⟩ := r3.put (o := .dK (putK ws kk v)) (ob' := .dK (putD kvs kk d)) hc ⟨rfl, _, upd_same, p1, p2⟩
  refine ⟨a, _, rfl, .k w1 (by rw [hl]; exact len_line h6), k.nx _ _ ⟨_, _, _, r4, ((e1.trans e2).trans e3).trans e4, sl.mono (((e1.trans e2).trans e3).trans e4), ?_⟩⟩
  rw [obs_set]
  exact q3
end
end PW

namespace PW
open PySem PySem.Spec PyProof.Rows L2
/-! ### dicts looked up by any tuple of scalars -/
/-- what the dict at a holds at the key y, a tuple wherever it stands -/
def DGetS (K : PySem.W.Frag) (H : Hp) (a : Addr) (y : L2.V) (r : Option L2.V) : Prop := ∃ kvs k b, Rd H a (.dT kvs) ∧ y = .ref b ∧ SqT K H b (k.map kV) ∧ r = valV kvs k
section
variable {X : Cx} {pins : List (Addr × Obj)} {σ : L2.St} {H : Hp} {s : Shared} {a b : Addr} {y v d : L2.V} {u r : Value} {o : Option L2.V} {A : Around} {E : Value → Shared → Prop} {ks : List Key}
theorem key_ofS (I : Inv X pins σ H s) (h : SqT X.K H b (ks.map kV)) : (tupleKind (mixKind X.prog X.w)).is s.heap ks b := by
  obtain ⟨its, rv, ⟨o, ho, hc, n, hd⟩, _⟩ := I.tuple h
  exact ⟨o, its.toArray, n, ho, hc, hd, by simpa using items_are rv⟩
theorem d_getItemS {Q : Value → Shared → Prop} (hu : A.units + 1 < cLine) (I : Inv X pins σ H s) (g : DGetS X.K H a y (some v)) (ry : RelV y u) (h : ∀ w' s', Inv X pins σ H s' → RelV v w' → Q w' s') :
    wpAny (model X.prog X.w) A (getItem (.ref a) u) Q E s := by
  obtain ⟨kvs, k, b, e, ey, eb, l⟩ := g
  subst ey
  cases (show u = Value.ref b from ry)
  obtain ⟨z, hd, xs, rel, dd⟩ := dt_rd I.hok e
  obtain ⟨w', hw, rw'⟩ := RelO.some_of (v := v) (o := (atKey xs k).map (·.2)) (by rw [l]; exact rel.val k)
  obtain ⟨p, hp, hp2⟩ := Option.map_eq_some_iff.mp hw
  refine wpAny_getItem_heap (tupleKind_room_in1 hu) (key_ofS I eb) dd hp ?_
  rw [hp2]
  exact h w' _ (I.tok _) rw'
theorem d_get2S {Q : Value → Shared → Prop} (hu : A.units + 1 < cLine) (I : Inv X pins σ H s) (g : DGetS X.K H a y o) (ry : RelV y u) (rd : RelV d r) (h : ∀ w' s', Inv X pins σ H s' → RelV (o.getD d) w' → Q w' s') :
    wpAny (model X.prog X.w) A (call (.builtin "dict.get") [.ref a, u, r]) Q E s := by
  obtain ⟨kvs, k, b, e, ey, eb, l⟩ := g
  subst ey
  cases (show u = Value.ref b from ry)
  obtain ⟨z, hd, xs, rel, dd⟩ := dt_rd I.hok e
  refine call_meetsIn PySem.F.slot_dict_get dd.typeIs PySem.F.entry_dict_get (PySem.F.args_dict_get_3 _ _ _) (meetsH_dict_get_default (tupleKind (mixKind X.prog X.w)) a b hd r) ⟨tupleKind_room_in1 hu, k, xs, key_ofS I eb, dd, h _ _ (I.tok _) ?_⟩
  rw [l]
  exact (rel.val k).getD rd
theorem d_inS {Q : Value → Shared → Prop} (hu : A.units + 1 < cLine) (I : Inv X pins σ H s) (g : DGetS X.K H a y o) (ry : RelV y u) (h : ∀ s', Inv X pins σ H s' → Q (.bool o.isSome) s') :
    wpAny (model X.prog X.w) A (compareOp .In u (.ref a)) Q E s := by
  obtain ⟨kvs, k, b, e, ey, eb, l⟩ := g
  subst ey
  cases (show u = Value.ref b from ry)
  obtain ⟨z, hd, xs, rel, dd⟩ := dt_rd I.hok e
  refine wpAny_in_heap (tupleKind_room_in1 hu) (key_ofS I eb) hd dd ?_
  have q := (rel.val k).isSome_eq
  rw [Option.isSome_map] at q
  rw [← q, ← l]
  exact h _ (I.tok _)
theorem dictS_typeIs (I : Inv X pins σ H s) (g : DGetS X.K H a y o) : s.TypeIs (.ref a) "dict" := by
  obtain ⟨kvs, k, b, e, _, _, _⟩ := g
  obtain ⟨_, _, xs, _, dd⟩ := dt_rd I.hok e
  exact dd.typeIs
end
def tDGetS (K : PySem.W.Frag) (td ty : TE) : TE := fun σ H Q => td σ H fun x H1 => ty σ H1 fun y H2 => ∃ a v, x = .ref a ∧ DGetS K H2 a y (some v) ∧ Q v H2
def tDGet2S (K : PySem.W.Frag) (td ty tx : TE) : TE := fun σ H Q => td σ H fun x H1 => ∃ a, x = .ref a ∧ IsD H1 a ∧ ty σ H1 fun y H2 => tx σ H2 fun z H3 => ∃ o, DGetS K H3 a y o ∧ Q (o.getD z) H3
section
variable {X : Cx} {R : Fr} {o e a b i value : Expr} {es : List Expr} {f g h : PTE} {td ty tx : TE} {pos pos' p apos cpos : Pos}
theorem pe_dgetS (hu : X.A.units + 1 < cLine) (ho : PE X o td) (hi : PE X i ty) (hs : NoSl i) : PE X (.Subscript o i pos) (tDGetS X.K td ty) := by
  refine ⟨fun pins s σ H Q I h => ?_⟩
  refine subD_of PySem.F.slot_dict_getitem.lookup hs (thn (ho.run pins s σ H _ I h) fun u s1 ⟨x, H1, I1, rx, q1⟩ => thn (hi.run pins s1 σ H1 _ I1 q1) fun iv s2 ⟨y, H2, I2, ry, a, v, ex, g, q2⟩ => ?_)
  subst ex
  obtain rfl : u = Value.ref a := rx
  exact ⟨dictS_typeIs I2 g, d_getItemS hu I2 g ry fun w' s3 I3 rw' => ⟨v, H2, I3, rw', q2⟩⟩
theorem pe_dget2S {f : Expr} (hu : X.A.units + 1 < cLine) (ho : PE X o td) (he : PE X e ty) (hf : PE X f tx) (m : M2 X o "get" apos e f cpos) : PE X (.Call (.Attribute o "get" apos) [e, f] [] cpos) (tDGet2S X.K td ty tx) := by
  refine ⟨fun pins s σ H Q I h => ?_⟩
  refine wpAny_Call_method m.base m.few m.line PySem.F.plainAttrs_dict PySem.F.slot_dict_get PySem.F.type_dict_get (thn (ho.run pins s σ H _ I h) fun u s1 ⟨x, H1, I1, rx, a, ex, d, q1⟩ => ?_)
  subst ex
  obtain rfl : u = Value.ref a := rx
  obtain ⟨t1, t2, _⟩ := isD_at I1 d
  refine ⟨t1, t2, ?_⟩
  rw [m.trees]
  refine Calls.callWith_builtin rfl (Calls.evalArgs_plain (Calls.spliced_cons (thn (he.run pins s1 σ H1 _ I1 q1) fun iv s2 ⟨y, H2, I2, ry, q2⟩ =>
    Calls.spliced_cons (thn (hf.run pins s2 σ H2 _ I2 q2) fun fv s3 ⟨z, H3, I3, rz, ov, g, q3⟩ => Calls.spliced_nil ?_))))
  exact d_get2S hu I3 g ry rz fun w' s4 I4 rw' => ⟨_, H3, I4, rw', q3⟩
/-- a key that is data: dv is a tuple of scalars -/
def keysOf : DV → Option (List Key)
  | .d (.tuple ds) => dKeys ds
  | _ => none
theorem keysOf_at {K : PySem.W.Frag} {S : List Cell} {V H : Hp} {v : L2.V} {dv : DV} {ks : List Key} (r : Rep K R S V H) (d : DVat K S V v dv) (e : keysOf dv = some ks) : ∃ b, v = .ref b ∧ SqT K H b (ks.map kV) := by
  unfold keysOf at e
  split at e
  · rename_i ds
    cases d with
    | @tup a xs _ h1 h2 =>
      have := dKeys_v h2 e
      subst this
      exact ⟨a, rfl, same_seqT r.vh h1⟩
  · cases e
/-- d[k], k a tuple of scalars -/
def qDGetS (K : PySem.W.Frag) (f g : PTE) : PTE := fun Γ O Q => f Γ O fun x O1 => g Γ O1 fun y O2 => ∃ kvs ks d, IsDT K x O2 kvs ∧ keysOf y = some ks ∧ valD kvs ks = some d ∧ Q (.d d) O2
theorem ew_dgetS (hu : X.A.units + 65 < cLine) (ho : EW X R o f) (hi : EW X R i g) (hs : NoSl i := by exact fun _ _ => rfl) : EW X R (.Subscript o i pos) (qDGetS X.K f g) := by
  intro S V H σ Γ Q r sl q
  refine wE_of (pe_dgetS (by omega) wE_pe wE_pe hs) (wE_mono (ho S V H σ Γ _ r sl q) fun v H1 ⟨S1, V1, da, r1, e1, d1, q1⟩ => wE_mono (hi S1 V1 H1 σ Γ _ r1 (sl.mono e1) q1) fun u H2 ⟨S2, V2, db, r2, e2, d2, kvs, ks, d, h1, h2, h3, q2⟩ => ?_)
  obtain ⟨a, ws, rfl, w1, w2, w3⟩ := isDT_at r2 (d1.mono e2) h1
  obtain ⟨b, rfl, k1⟩ := keysOf_at r2 d2 h2
  obtain ⟨z, hz, dz⟩ := (valD_dq w2 w3).2 _ h3
  exact ⟨a, z, rfl, ⟨ws, ks, b, .inl w1, rfl, k1, hz.symm⟩, PostE.ext (e1.trans e2) (.hd r2 dz q2)⟩
/-- d.get(k, x), k a tuple of scalars -/
def qDGet2S (K : PySem.W.Frag) (f g h : PTE) : PTE := fun Γ O Q => f Γ O fun x O1 => (∃ kvs, IsDT K x O1 kvs) ∧ g Γ O1 fun y O2 => h Γ O2 fun z O3 => ∃ kvs ks d, IsDT K x O3 kvs ∧ keysOf y = some ks ∧ z = .d d ∧ Q (.d ((valD kvs ks).getD d)) O3
theorem ew_dget2S (hu : X.A.units + 65 < cLine) (ho : EW X R o f) (he : EW X R a g) (hf : EW X R b h) (m : M2 X o "get" apos a b cpos) : EW X R (.Call (.Attribute o "get" apos) [a, b] [] cpos) (qDGet2S X.K f g h) := by
  intro S V H σ Γ Q r sl q
  refine wE_of (pe_dget2S (by omega) wE_pe wE_pe wE_pe m) (wE_mono (ho S V H σ Γ _ r sl q) fun v H1 ⟨S1, V1, da, r1, e1, d1, ⟨kvs0, h0⟩, q1⟩ => ?_)
  obtain ⟨a0, ws0, ea, w0, _, _⟩ := isDT_at r1 d1 h0
  refine ⟨a0, ea, .inr ⟨ws0, .inl w0⟩, wE_mono (he S1 V1 H1 σ Γ _ r1 (sl.mono e1) q1) fun u H2 ⟨S2, V2, db, r2, e2, d2, q2⟩ => wE_mono (hf S2 V2 H2 σ Γ _ r2 (sl.mono (e1.trans e2)) q2) fun t H3 ⟨S3, V3, dc, r3, e3, d3, kvs, ks, d, h1, h2, h4, q3⟩ => ?_⟩
  subst h4
  obtain ⟨a1, ws, ea1, w1, w2, w3⟩ := isDT_at r3 ((d1.mono e2).mono e3) h1
  rw [ea] at ea1
  cases ea1
  obtain ⟨b1, rfl, k1⟩ := keysOf_at r3 (d2.mono e3) h2
  obtain ⟨g1, g2⟩ := valD_dq (k := ks) w2 w3
  refine ⟨valV ws ks, ⟨ws, ks, b1, .inl w1, rfl, k1, rfl⟩, PostE.ext ((e1.trans e2).trans e3) ?_⟩
  cases q : valD kvs ks with
  | none =>
    rw [g1 q]
    rw [q] at q3
    exact .hd r3 d3 q3
  | some d' =>
    obtain ⟨z, hz, dz⟩ := g2 _ q
    rw [hz]
    rw [q] at q3
    exact .hd r3 dz q3
/-- k in d -/
theorem ow_inS {K : PySem.W.Frag} : True := trivial
/-- a key as the data that it is -/
def qAsD (f : PTE) : PTE := fun Γ O Q => f Γ O fun x O1 => ∃ ks, x = .x (keyψ ks) ∧ Q (.d (.tuple (ks.map keyD))) O1
theorem ew_asD (he : EW X R e f) : EW X R e (qAsD f) := by
  intro S V H σ Γ Q r sl q
  refine wE_mono (he S V H σ Γ _ r sl q) fun v H1 ⟨S1, V1, dv, r1, e1, d1, ks, h, q1⟩ => ?_
  subst h
  obtain ⟨b, rfl, hb⟩ := d1 V1 (Same.refl _)
  have hk : ∀ ks : List Key, DqL X.K V1 (ks.map kV) (ks.map keyD) := by
    intro ks
    induction ks with
    | nil => exact .nil
    | cons k ks ih =>
      cases k with
      | inl i => exact .cons (.int i) ih
      | inr z => exact .cons (.str z) ih
  exact PostE.ext e1 (.hd r1 (.tup (SqT.of hb) (hk ks)) q1)
/-- a local dict, list or instance is no more changed: it goes into the view -/
def qFrzT (K : PySem.W.Frag) (m : Nat) (f : PTE) : PTE := fun Γ O Q => f Γ O fun dv O1 => ∃ i kvs, dv = .o i ∧ O1[i]? = some (.dT kvs) ∧ m ≤ i ∧ Q (.x (dTψ K kvs)) (O1.set i .dead)
theorem ew_frzT {m : Nat} (hR : R.Fs.length = m) (h : EW X R e f) : EW X R e (qFrzT X.K m f) := by
  intro S V H σ Γ Q r sl q
  refine wE_mono (h S V H σ Γ _ r sl q) fun v H1 ⟨S1, V1, dv, r1, e1, d1, i, kvs, h0, h1, h2, q1⟩ => ?_
  subst h0
  obtain ⟨a, ws, rfl, hc, w1, w2, w3⟩ := own_dT r1 d1 h1
  have h0 : R.H0 a = none := by
    rcases (r1.foot i _ hc a (List.mem_singleton_self a)).2.2 with ⟨fs, z, _⟩ | z
    · have := (List.getElem?_eq_some_iff.mp z).1
      omega
    · exact z
  obtain ⟨r2, e2⟩ := r1.freeze hc w1 h0
  refine ⟨_, _, .x (dTψ X.K kvs), r2, e1.trans e2, fun V' s => ⟨a, ws, rfl, s _ _ upd_same, w2, w3.mono (e2.v.trans s)⟩, ?_⟩
  rw [obs_set]
  exact q1
end
end PW

namespace PW
open PySem PySem.Spec PyProof.Rows L2
/-! ### {k: v} -/
def qDisp1 (f g : PTE) : PTE := fun Γ O Q => f Γ (O ++ [.dK []]) fun x O1 => g Γ O1 fun y O2 => ∃ c k d, x = .d c ∧ dKey c = some k ∧ y = .d d ∧ O2[O.length]? = some (.dK []) ∧ Q (.o O.length) (O2.set O.length (.dK [(k, d)]))
section
variable {X : Cx} {R : Fr} {a b : Expr} {f g : PTE} {pos : Pos}
theorem ew_disp1 (ha : EW X R a f) (hb : EW X R b g) : EW X R (.Dict [some a] [b] pos) (qDisp1 f g) := by
  intro S V H σ Γ Q r sl q
  refine wE_of (pe_disp (pps_cons wE_pe wE_pe pps_nil) rfl rfl (by simp) (by show 1 ≤ 15; decide)) fun p hp => ?_
  obtain ⟨r0, e0⟩ := r.newOwn (o := .dK []) (ob := .dK []) hp ⟨rfl, [], upd_same, rfl, .nil⟩
  have ho : obs (S ++ [(p, [p], Ob.dK [])]) = obs S ++ [.dK []] := by simp [obs]
  have hl : (obs S).length = S.length := by simp [obs]
  unfold qDisp1 at q
  rw [← ho] at q
  show wE X a σ _ _
  refine wE_mono (ha _ _ _ σ Γ _ r0 (sl.mono e0) q) fun v H1 ⟨S1, V1, da, r1, e1, d1, q1⟩ => wE_mono (hb S1 V1 H1 σ Γ _ r1 (sl.mono (e0.trans e1)) q1) fun u H2 ⟨S2, V2, db, r2, e2, d2, c, k, d, h1, h2, h3, h4, q2⟩ => ?_
  subst h1 h3
  obtain ⟨c0, g1, g2⟩ := (e1.trans e2).s S.length (p, [p], .dK []) (by rw [List.getElem?_append_right (Nat.le_refl _)]; simp)
  rw [hl] at h4
  obtain ⟨a', ws, ea, hc, w1, w2, w3⟩ := own_dK r2 (⟨c0, g1, rfl⟩ : DVat X.K S2 V2 (.ref c0.1) (.o S.length)) h4
  have ea' : a' = p := by
    have := ea
    rw [g2] at this
    cases this
    rfl
  subst ea'
  have hws : ws = [] := by
    cases ws with
    | nil => rfl
    | cons _ _ => cases w2
  subst hws
  obtain rfl := key_dq (d1.mono e2) h2
  obtain ⟨r3, e3⟩ := r2.put (o := .dK [(k, u)]) (ob' := .dK [(k, d)]) hc ⟨rfl, [(k, u)], upd_same, rfl, DqL.one d2⟩
  refine ⟨w1, [(k, u)], rfl, by show 1 ≤ 15; decide, _, _, .o S.length, r3, ((e0.trans e1).trans e2).trans e3, ⟨(a', [a'], .dK [(k, d)]), ?_, rfl⟩, ?_⟩
  · rw [List.getElem?_set, if_pos rfl, if_pos (List.getElem?_eq_some_iff.mp hc).1]
  · rw [obs_set, ← hl]
    exact q2
end
end PW

namespace PW
open PySem PySem.Spec PyProof.Rows L2
/-! ### methods of a thing that a word tells -/
/-- ψ tells of an instance of C without a field m -/
def HasIns (C : Addr) (m : Str) (ψ : Hp → L2.V → Prop) : Prop := ∀ V v, ψ V v → ∃ a dx gs, v = .ref a ∧ V a = some (.ins C dx gs) ∧ gs.lookup m = none
theorem ins_has {K : PySem.W.Frag} {C : Addr} {m : Str} {fl : List (Str × DV)} (h : fl.lookup m = none) : HasIns C m (insψ K C fl) := fun V v ⟨a, dx, gs, e, h1, h2⟩ => ⟨a, dx, gs, e, h1, (ins_look h2).1 h⟩
section
variable {X : Cx} {R : Fr} {o e a b : Expr} {es : List Expr} {f g : PTE} {fs : PTA} {pos p apos : Pos}
def qMethI (C : Addr) (m : Str) (psp : PSp) (f : PTE) (fs : PTA) : PTE := fun Γ O Q => f Γ O fun x O1 => (∃ ψ, x = .x ψ ∧ HasIns C m ψ) ∧ fs Γ O1 fun dvs O2 => qApp psp (x :: dvs) O2 Q
theorem ew_methI0 {pl : Sem Bool} {C fa : Addr} {fd : FuncData} {m : Str} {ps : List Str} {k : Nat} {psp : PSp} (c : Cls X.K C) (hm : Meth X.K C m fa) (F : FnOk X.prog X.w X.K X.mg X.base CX0 k fa fd ps (liftSp X.K psp)) (hr : Room k X.A) (hb : Binds X.K fd ps []) (ho : EW X R o f)
    (ht : eval (.Call (.Attribute o m apos) [] [] pos) X.env = (do
      let ov ← eval o X.env
      standAt apos.atName
      let (f, first) ← holding [ov] (getMethod ov m pl)
      callWith pos f first (backTo pos (starEach [] X.env)) (backToKw pos (keywordEach [] X.env))) := by rfl) : EW X R (.Call (.Attribute o m apos) [] [] pos) (qMethI C m psp f qNil) := by
  intro S V H σ Γ Q r sl q
  refine wE_of (pe_meth0 wE_pe c hm F hr hb .nil pass0 ht) (wE_mono (ho S V H σ Γ _ r sl q) fun v H1 ⟨S1, V1, dv, r1, e1, d1, ⟨ψ, h, hl⟩, q1⟩ => ?_)
  subst h
  obtain ⟨a, dx, gs, rfl, h1, h2⟩ := hl V1 v (d1 V1 (Same.refl _))
  refine ⟨a, dx, gs, rfl, r1.vh _ _ h1, h2, ?_⟩
  have h := app_ok (E := E0) r1 (Paired.cons d1 Paired.nil) q1
  obtain ⟨S2, V2, dvs2, PQ, h1, h2, h3, h4⟩ := h
  exact ⟨S2, V2, dvs2, PQ, h1, h2, h3, fun v H' S' V' dv a b c d g => PostE.ext e1 (h4 v H' S' V' dv a b c d g)⟩
theorem ew_methI {pl : Sem Bool} {C fa : Addr} {fd : FuncData} {m : Str} {ps : List Str} {k : Nat} {psp : PSp} (c : Cls X.K C) (hm : Meth X.K C m fa) (F : FnOk X.prog X.w X.K X.mg X.base CX0 k fa fd ps (liftSp X.K psp)) (hr : Room k X.A) (hb : Binds X.K fd ps []) (ho : EW X R o f) (ha : AW X R (e :: es) fs)
    (hst : starEach (e :: es) X.env = (false, eval e X.env) :: starEach es X.env := by rfl) (hpl : (backTo pos (starEach es X.env)).any (·.1) = false := by rfl)
    (ht : eval (.Call (.Attribute o m apos) (e :: es) [] pos) X.env = (do
      let ov ← eval o X.env
      standAt apos.atName
      let (f, first) ← holding [ov] (getMethod ov m pl)
      callWith pos f first (backTo pos (starEach (e :: es) X.env)) (backToKw pos (keywordEach [] X.env))) := by rfl) : EW X R (.Call (.Attribute o m apos) (e :: es) [] pos) (qMethI C m psp f fs) := by
  intro S V H σ Γ Q r sl q
  refine wE_of (pe_meth wE_pe c hm F hr hb .nil pass0 wA_pa hst hpl ht) (wE_mono (ho S V H σ Γ _ r sl q) fun v H1 ⟨S1, V1, dv, r1, e1, d1, ⟨ψ, h, hl⟩, q1⟩ => ?_)
  subst h
  obtain ⟨a, dx, gs, rfl, h1, h2⟩ := hl V1 v (d1 V1 (Same.refl _))
  refine ⟨a, dx, gs, rfl, r1.vh _ _ h1, h2, wA_mono (ha S1 V1 H1 σ Γ _ r1 (sl.mono e1) q1) fun vs H2 ⟨S2, V2, dvs, r2, e2, d2, q2⟩ => ?_⟩
  have h := app_ok (E := E0) r2 (Paired.cons (d1.mono e2) d2) q2
  rw [List.append_nil]
  obtain ⟨S3, V3, dvs3, PQ, h1, h2, h3, h4⟩ := h
  exact ⟨S3, V3, dvs3, PQ, h1, h2, h3, fun v H' S' V' dv a b c d g => PostE.ext (e1.trans e2) (h4 v H' S' V' dv a b c d g)⟩
theorem wO_mono {X : Cx} {F : Value → Value → Sem Value} {x y : L2.V} {H : Hp} {Q Q' : VK} (h : wO X F x y H Q) (k : ∀ v H', Q v H' → Q' v H') : wO X F x y H Q' := by
  obtain ⟨t, ht, q⟩ := h
  exact ⟨fun x y H Q => ∃ Q0, (∀ v H, Q0 v H → Q v H) ∧ t x y H Q0, fun pins s σ H x y v u Q I rx ry ⟨Q0, hQ, z⟩ => thn (ht pins s σ H x y v u Q0 I rx ry z) fun _ _ ⟨v, H', I', r, q⟩ => ⟨v, H', I', r, hQ v H' q⟩, Q, k, q⟩
/-- a < b <= c -/
def qChain (o1 o2 : VOp) (f g h : PTE) : PTE := fun Γ O Q => f Γ O fun x O1 => g Γ O1 fun y O2 => o1 x y O2 fun dv O3 => match dv with
  | .d (.bool k) => (match k with
    | true => h Γ O3 fun z O4 => o2 y z O4 Q
    | false => Q (.d (.bool false)) O3)
  | _ => False
theorem ew_chain {c : Expr} {h : PTE} {op op' : CmpOp} {o1 o2 : VOp} (ho : OpW X R (compareOp op) o1) (ho' : OpW X R (compareOp op') o2) (ha : EW X R a f) (hb : EW X R b g) (hc : EW X R c h) (hm : lastMarks [op, op'] [b, c] = false := by with_unfolding_all rfl) :
    EW X R (.Compare a [op, op'] [b, c] pos) (qChain o1 o2 f g h) := by
  intro S V H σ Γ Q r sl q
  refine wE_of (pe_chain wO_op wO_op wE_pe wE_pe wE_pe hm) (wE_mono (ha S V H σ Γ _ r sl q) fun v H1 ⟨S1, V1, da, r1, e1, d1, q1⟩ => wE_mono (hb S1 V1 H1 σ Γ _ r1 (sl.mono e1) q1) fun u H2 ⟨S2, V2, db, r2, e2, d2, q2⟩ => ?_)
  refine wO_mono (ho S2 V2 H2 v u da db _ r2 (d1.mono e2) d2 q2) fun z H3 p => ?_
  obtain ⟨k, hk, S3, V3, r3, e3, q3⟩ := post_bool (Q := fun k O3 => match k with
    | true => h Γ O3 fun z O4 => o2 db z O4 Q
    | false => Q (.d (.bool false)) O3) p
  have e13 := (e1.trans e2).trans e3
  refine ⟨k, hk, ?_⟩
  cases k with
  | false =>
    rw [if_neg Bool.false_ne_true]
    exact PostE.ext e13 (.hd r3 (.bl false) q3)
  | true =>
    rw [if_pos rfl]
    exact wE_mono (hc S3 V3 H3 σ Γ _ r3 (sl.mono e13) q3) fun t H4 ⟨S4, V4, dc, r4, e4, d4, q4⟩ => wO_mono (ho' S4 V4 H4 u t db dc Q r4 (d2.mono (e3.trans e4)) d4 q4) fun v H z => PostE.ext (e13.trans e4) z
end
/-! ### standings, in plain words -/
structure Std where
  st : Str
  place : Str
  come : List Str
  rung : Bool
def stdD (s : Std) : PyData := .tuple [.str s.st, .str s.place, .tuple (s.come.map PyData.str), .bool s.rung]
def spotOf (n : Int) (newest held : Option Int) : Str := match newest with
  | none => "top"
  | some m => if n > m then "top" else if n = m then "newest" else match held with
    | none => "between"
    | some h => if n > h then "between" else if n = h then "held" else "below"
end PW

namespace PW
open PySem PySem.Spec PyProof.Rows L2
/-! ### NAME[k]: a dict of the module with texts for keys, its values data -/
structure TabC (K : PySem.W.Frag) (mg : Str → Option Value) (w : World) (x : Str) (tbl : List (Str × PyData)) : Prop where
  ex : ∃ p, mg x = some (.ref p) ∧ ∀ z d, tbl.lookup z = some d → ∃ v, KDct K w p z v ∧ ∀ V, Dq K V v d
def qIxTab (tbl : List (Str × PyData)) (g : PTE) : PTE := fun Γ O Q => g Γ O fun y O1 => match y with
  | .d (.str z) => (match tbl.lookup z with
    | some d => Q (.d d) O1
    | none => False)
  | _ => False
section
variable {X : Cx} {R : Fr} {b : Expr} {g : PTE} {pos p : Pos}
theorem ew_ixTab {x : Str} {tbl : List (Str × PyData)} (T : TabC X.K X.mg X.w x tbl) (hb : EW X R b g) (hg : Gl X x := by rfl) (hdb : (x == ("__debug__" : Str)) = false := by decide) (hs : PlainIx b := by exact fun _ _ => rfl) : EW X R (.Subscript (.Name x p) b pos) (qIxTab tbl g) := by
  obtain ⟨a, hm, hv⟩ := T.ex
  intro S V H σ Γ Q r sl q
  refine wE_of (pe_ix ix_kdict (pe_glob (v := .ref a) hg hm rfl hdb) wE_pe hs) ?_
  show wE X b σ H _
  refine wE_mono (hb S V H σ Γ _ r sl q) fun v H1 ⟨S1, V1, dv, r1, e1, d1, q1⟩ => ?_
  dsimp only at q1
  split at q1
  · rename_i z
    split at q1
    · rename_i d hd
      obtain ⟨v0, k0, d0⟩ := hv z d hd
      cases d1
      exact ⟨a, z, v0, rfl, rfl, k0, PostE.ext e1 (.hd r1 (d0 V1) q1)⟩
    · exact q1.elim
  · exact q1.elim
end
end PW

namespace PW
open PySem PySem.Spec PyProof.Rows L2
/-! ### sorted(xs) of texts, a list or a tuple -/
theorem call_sortedTS {X : Cx} : CallR X (.builtin "sorted") (fun xs H Q => ∃ (a : Addr) (ss : List Str), xs = [.ref a] ∧ SqT X.K H a (ss.map L2.V.str) ∧ ss.length < 64 ∧
    ∀ ys p, ys.Perm ss → sortedS ys = true → H p = none → Q (.ref p) (upd H p (.lst (ys.map L2.V.str)))) := by
  intro pins s σ H xs us Q I r q
  obtain ⟨a, ss, ex, hd, h64, q⟩ := q
  subst ex
  obtain ⟨u, eu, rx⟩ := vals1 r
  subst eu
  cases rx
  obtain ⟨its, rv, ⟨o, ho, hc, n, hdt⟩, hz⟩ := I.tuple hd
  have hS : StrsAre its ss := rv.strs
  have hal : its.length = ss.length := hS.length
  refine Calls.call_function_entry PyProof.Rows.kind_sorted PyProof.Rows.plain_sorted PyProof.Rows.entry_sorted (PyProof.Rows.args_sorted1 _) ?_
  unfold Builtin.«sorted»
  refine wpAny_bind (m := checkCount "sorted" 1 1 _) (wpAny_pure ?_)
  refine wpAny_bind (wpAny_collect_seq a (.inr rfl) ho hc hdt (fun h' hk => ?_) (by simp only [List.size_toArray]; rw [hal, sizeLine_eq]; omega))
  have I1 : Inv X pins σ H { s with heap := h' } := I.kept (t' := s.toks) hk
  refine wpAny_bind (wpAny_newList ?_ (by simp only [List.toList_toArray]; rw [hal, sizeLine_eq]; omega))
  have hoL : (h'.push (seqObj "list" its.toArray.toList.toArray 0)).get? h'.objs.size = some (seqObj "list" its.toArray.toList.toArray 0) := Heap.get?_push_size _ rfl
  show wpAny _ _ _ _ _ { s with heap := h'.push (seqObj "list" its.toArray.toList.toArray 0) }
  have hS' : StrsAre its.toArray.toList ss := by simpa using hS
  refine wpAny_bind (wpAny_holding (wpAny_call_entry PyProof.Rows.slot_list_sort ⟨_, hoL, rfl⟩ PyProof.Rows.entry_list_sort
    (list_sort_treeK strKind_oneLt (s := { s with heap := h'.push (seqObj "list" its.toArray.toList.toArray 0) }) hoL hS'.keysOf (fun v₁ v₂ rest e => keyKind_strs (by rw [← e]; exact hS')) (by simp only [List.toList_toArray]; rw [hal]; exact h64) fun st' hp hs => ⟨_, rfl, ?_⟩)
    (PyProof.Rows.args_list_sort _)))
  obtain ⟨ys, g1, g2, g3⟩ := sorted_out_str hS' hp hs
  obtain ⟨e', he'⟩ := PyProof.Rows.sortedHeap_at (vs := its.toArray.toList) (out := (arrOf st').map (·.2)) hoL
  have hlen : (ys.map L2.V.str).length ≤ sizeLine := by
    rw [List.length_map, g2.length_eq]
    exact Nat.le_trans (Nat.le_of_lt h64) (by decide)
  refine wpAny_pure ⟨_, rfl, .ref h'.objs.size, upd H h'.objs.size (.lst (ys.map L2.V.str)), I1.laid (t' := s.toks) (fun b u e => ?_) (Nat.le_refl _)
    (show ObjOk X.prog X.w _ _ _ (.lst (ys.map L2.V.str)) from ⟨hlen, ((arrOf st').map (·.2)).toList, e', vals_of_strs g1, by rw [Array.toArray_toList]; exact he'⟩), rfl, q ys _ g2 g3 (I1.hok.fresh (Nat.le_refl _))⟩
  have hb : b < h'.objs.size := Heap.lt_size e
  rw [PyProof.Rows.sortedHeap_old (Nat.ne_of_lt hb) (by rw [size_push']; exact Nat.lt_succ_of_lt hb)]
  exact Heap.get?_push_of_some _ e
/-- texts alone -/
def strsOf : List PyData → Option (List Str)
  | [] => some []
  | .str z :: r => match strsOf r with
    | some zs => some (z :: zs)
    | none => none
  | _ :: _ => none
theorem strsOf_map : ∀ zs : List Str, strsOf (zs.map PyData.str) = some zs
  | [] => rfl
  | z :: zs => by
    show (match strsOf (zs.map PyData.str) with | some ys => some (z :: ys) | none => none) = _
    rw [strsOf_map zs]
theorem strsOf_v {K : PySem.W.Frag} {V : Hp} : ∀ {ds : List PyData} {vs : List L2.V} {zs : List Str}, DqL K V vs ds → strsOf ds = some zs → vs = zs.map L2.V.str
  | [], _, zs, h, e => by cases h; cases e; rfl
  | d :: ds, _, zs, h, e => by
    cases h with
    | cons h1 h2 =>
      unfold strsOf at e
      split at e
      · rename_i h0
        cases h0
      · rename_i z r ed
        cases ed
        split at e
        · rename_i ys hy
          cases e
          cases h1
          rw [strsOf_v h2 hy]; rfl
        · cases e
      · cases e
/-- a sorted list of them: by code points -/
def oSortS : List DV → List Ob → QE → Prop := fun dvs O Q => match dvs with
  | [dv] => match rd O dv with
    | some (.list ds) => (match strsOf ds with
      | some zs => zs.length < 64 ∧ ∀ ys, ys.Perm zs → sortedS ys = true → Q (.d (.list (ys.map PyData.str))) O
      | none => False)
    | some (.tuple ds) => (match strsOf ds with
      | some zs => zs.length < 64 ∧ ∀ ys, ys.Perm zs → sortedS ys = true → Q (.d (.list (ys.map PyData.str))) O
      | none => False)
    | _ => False
  | _ => False
theorem b_sortS {X : Cx} {R : Fr} : BW1 X R (.builtin "sorted") oSortS := by
  intro S V H vs dvs Q r d q
  unfold oSortS at q
  split at q
  · rename_i dv
    cases d with
    | cons d1 d2 =>
      cases d2
      split at q
      · rename_i ds h
        split at q
        · rename_i zs hz
          obtain ⟨a, xs, rfl, hx, hd⟩ := rd_lst r d1 h
          have := strsOf_v hd hz
          subst this
          refine ⟨_, cr_sortedS, a, zs, rfl, SqL.of hx, q.1, fun ys p pm so hp => ?_⟩
          exact .new r hp (.lst upd_same (DqL.strs _)) (q.2 ys pm so)
        · exact q.elim
      · rename_i ds h
        split at q
        · rename_i zs hz
          obtain ⟨a, xs, rfl, hx, hd⟩ := rd_tup r d1 h
          have := strsOf_v hd hz
          subst this
          refine ⟨_, call_sortedTS, a, zs, rfl, same_seqT r.vh hx, q.1, fun ys p pm so hp => ?_⟩
          exact .new r hp (.lst upd_same (DqL.strs _)) (q.2 ys pm so)
        · exact q.elim
      · exact q.elim
  · exact q.elim
end PW

namespace PW
open PySem PySem.Spec PyProof.Rows L2
/-! ### a, b, c = x, y, z with plain names -/
def qPar3 (i j l : Nat) (fs : PTA) : PTS := fun PD Γ O => fs Γ O fun dvs O1 => match dvs with
  | [v, w, u] => PD.nx (((Γ.set i (some v)).set j (some w)).set l (some u)) O1
  | _ => False
theorem sw_par3 {X : Cx} {R : Fr} {st : Stmt} {i j l : Nat} {a b c : Expr} {fs : PTA} (hc : X.calm = true) (hN : X.N.Nodup) (ha : AW X R [a, b, c] fs) (h : ∀ {ta : TA}, PA X [a, b, c] ta → PS X st (tPar3 i j l ta)) : SW X R st (qPar3 i j l fs) := by
  intro S V H σ Γ PD D r sl q k
  refine wS_of (h wA_pa) (wA_mono (ha S V H σ Γ _ r sl q) fun vs H1 ⟨S1, V1, dvs, r1, e1, d1, q1⟩ => ?_)
  dsimp only at q1
  split at q1
  · cases d1 with
    | cons d1 d2 => cases d2 with
      | cons d2 d3 => cases d3 with
        | cons d3 d4 =>
          cases d4
          exact ⟨_, _, _, rfl, k.nx _ H1 ⟨S1, V1, _, r1, e1, (((sl.mono e1).set i d1).set j d2).set l d3, q1⟩⟩
  · exact q1.elim
/-- ew_fld, K given apart from X -/
theorem ew_fldK {X : Cx} {R : Fr} {o : Expr} {f : PTE} {pos : Pos} {K : PySem.W.Frag} {C : Addr} {nm : Str} (hK : X.K = K) (c : Cls K C) (na : NoAttr K C nm) (ho : EW X R o f) (hb : attributeBase o nm X.env (eval o X.env) = eval o X.env := by rfl) : EW X R (.Attribute o nm pos) (qFld K C nm f) := by
  subst hK
  exact ew_fld c na ho hb
theorem ew_dgetSK {X : Cx} {R : Fr} {o i : Expr} {f g : PTE} {pos : Pos} {K : PySem.W.Frag} (hK : X.K = K) (hu : X.A.units + 65 < cLine) (ho : EW X R o f) (hi : EW X R i g) (hs : NoSl i := by exact fun _ _ => rfl) : EW X R (.Subscript o i pos) (qDGetS K f g) := by
  subst hK
  exact ew_dgetS hu ho hi hs
end PW

namespace PW
open PySem PySem.Spec PyProof.Rows L2
/-! ### tuple * int -/
def opRepT : VOp := fun dx dy O Q => match rd O dx, rd O dy with
  | some (.tuple xs), some (.int k) => (xs ≠ [] ∧ 2 ≤ k ∧ k ≤ 1000 ∧ xs.length ≤ 1000) ∧ Q (.d (.tuple (List.replicate k.toNat xs).flatten)) O
  | _, _ => False
theorem DqL.reps {K : PySem.W.Frag} {V : Hp} {vs : List L2.V} {ds : List PyData} (h : DqL K V vs ds) : ∀ n : Nat, DqL K V (List.replicate n vs).flatten (List.replicate n ds).flatten
  | 0 => .nil
  | n + 1 => by
    rw [List.replicate_succ, List.replicate_succ, List.flatten_cons, List.flatten_cons]
    exact h.append (DqL.reps h n)
section
variable {X : Cx} {R : Fr}
theorem ow_mulT : OpW X R (binaryOp .Mult) opRepT := by
  intro S V H x y da db Q r dx dy q
  unfold opRepT at q
  split at q
  · rename_i xs k e1 e2
    obtain ⟨p, vs, rfl, hp, hd⟩ := rd_tup r dx e1
    cases dq_int (rd_dq r dy e2)
    obtain ⟨⟨h1, h2, h3, h4⟩, q⟩ := q
    have hl := hd.length
    refine ⟨_, op_repT, p, k, vs, rfl, rfl, same_seqT r.vh hp, fun z => h1 (by subst z; cases hd; rfl), h2, h3, by omega, fun l hn => ?_⟩
    exact .new r hn (.tup (SqT.of upd_same) ((hd.reps _).mono (r.new hn).2.v)) q
  · exact q.elim
end
section
variable {X : Cx} {R : Fr} {pos p : Pos}
/-- a call without arguments -/
theorem ew_call0 {k : Nat} {fa : Addr} {fd : FuncData} {ps : List Str} {psp : PSp} {x : Str} (F : FnOk X.prog X.w X.K X.mg X.base CX0 k fa fd ps (liftSp X.K psp)) (hr : Room k X.A) (hm : X.mg x = some (.ref fa)) (hk : PySem.W.keepIn X.K (.ref fa) = true) (hb : Binds X.K fd ps [])
    (hg : Gl X x := by rfl) (hdb : (x == ("__debug__" : Str)) = false := by decide) : EW X R (.Call (.Name x p) [] [] pos) (qCall psp qNil) := by
  intro S V H σ Γ Q r sl q
  refine wE_of (pe_call0 F hr hg hm hk hb .nil pass0 hdb) ?_
  obtain ⟨S2, V2, dvs2, PQ, h1, h2, h3, h4⟩ := app_ok (E := E0) r .nil q
  exact ⟨S2, V2, dvs2, PQ, h1, h2, h3, h4⟩
end
end PW

/-! U23: enumerate of a list or a tuple of data -/
namespace PW
open PySem PySem.Spec PyProof.Rows L2
theorem meets_enumT (v : Value) (o : Obj) (HH : Heap → Prop) (B : Begins v o HH) :
    Meets (Builtin.«enumerate.__new__» ⟨[.type "enumerate", v], []⟩) (fun _ R s => HH s.heap ∧
      R (.ok (.ret (.ref (s.heap.push o).objs.size))) { s with heap := (s.heap.push o).push { cls := .type "enumerate", data := .fields #[.none, .bool false, .ref s.heap.objs.size, rawInt 0, .none, .none] } }) :=
  .of_wp fun prog w A R s hh => by
    obtain ⟨hp, g, d, tk, os⟩ := s
    obtain ⟨h1, hR⟩ := hh
    have sub := sub_enumerate
    have it : ∀ {A' : Around} {E : Value → Shared → Prop} {Q : Value → Shared → Prop}, Q (.ref hp.objs.size) ⟨hp.push o, g, d, tk, os⟩ → wpAny (model prog w) A' (pyIter v) Q E ⟨hp, g, d, tk, os⟩ :=
      fun q => B.iter prog w _ _ ⟨hp, g, d, tk, os⟩ _ h1 q
    wp_walk using it
    refine wpAny_stack_any fun st => wpAny_pure ?_
    split
    · rename_i c _ _ _ _ _
      cases (c == Value.type "enumerate") <;> (wp_walk using it; exact ⟨_, rfl, hR⟩)
    · wp_walk using it
      exact ⟨_, rfl, hR⟩
theorem next_enumT {prog : Program} {w : World} {A : Around} {E : Value → Shared → Prop} {s : Shared} {e it t : Addr} {i : Nat} {items : Array Value} {old : Value} {Q : Option Value → Shared → Prop} (hh : A.handled = none)
    (he : IsEnum s.heap e it i old) (hit : s.heap.IsTupleIter it t i) (ht : s.heap.IsTuple t items) (hx : items[i]? = none) (k : ∀ h', Heap.ExtBut it s.heap h' → Q none { s with heap := h' }) : wpAny (model prog w) A (pyNext (.ref e)) Q E s := by
  have ty : s.TypeIs (.ref e) "enumerate" := ⟨_, he, rfl⟩
  unfold pyNext
  refine wpAny_bind (wpAny_attempt (wpAny_callSpecial?_slot (name := Str.ofString "__next__") ty F.slot_enumerate_next (wpAny_call_entry F.slot_enumerate_next ty F.entry_enumerate_next ?_ (F.args_enumerate_next_1 _))))
  show wpAny _ _ (field (.ref e) 2 >>= _) _ _ _
  refine wpAny_bind (wpAny_field he rfl (x := .ref it) rfl (wpAny_bind (wpAny_nextOf_tuple_end hh hit ht hx fun h' x he' ⟨o, ho, hc⟩ => ?_)))
  exact wpAny_bind (wpAny_isInstance (T := "StopIteration") (b := true) ⟨o, ho, hc⟩ isSubtype_stop (wpAny_pure (k _ he')))
/-- the tuple at a, each item in a new pair -/
def IteT (K : PySem.W.Frag) (a : Addr) : It :=
  ⟨fun i H => ∃ (xs : List L2.V) (x : L2.V), SqT K H a xs ∧ xs[i]? = some x, fun i H v H' => ∃ T x, v = .ref T ∧ H T = none ∧ H' = upd H T (.tup [.int (i : Nat), x]) ∧ ∀ xs, SqT K H a xs → xs[i]? = some x, fun i H => ∃ xs : List L2.V, SqT K H a xs ∧ xs.length ≤ i⟩
theorem turn_enumT {P : Program} {w : World} {K : PySem.W.Frag} {elts : List Expr} {kk : Nat} {tpos : Pos} (a e it : Addr) (hai : a ≠ it) (hae : a ≠ e) :
    Turn P w K (.Tuple elts kk tpos) (IteT K a) [e, it] e (fun i h => (∃ old, IsEnum h e it ((i : Nat) : Int) old) ∧ h.IsTupleIter it a i ∧ e ≠ it) where
  mem := by simp
  obj := fun i h ⟨⟨old, he⟩, ⟨o, ho, _, hd⟩, _⟩ b hb => by
    have : b = e ∨ b = it := by simpa using hb
    rcases this with rfl | rfl
    · exact ⟨_, he, fun v q => nomatch q⟩
    · exact ⟨o, ho, fun v q => by rw [hd] at q; cases q⟩
  keep := fun i h h' ⟨⟨old, he⟩, hi, hne⟩ k => ⟨⟨old, k e (by simp) _ he⟩, hi.at fun o q => k it (by simp) o q, hne⟩
  item := by
    rintro X rfl rfl rfl hc i pins s σ H E I hf ⟨⟨old, he⟩, hit, hne⟩ ⟨xs, x, hq, hx⟩
    obtain ⟨its, rv, p, hz⟩ := I.tuple hq
    obtain ⟨u, hu, ru⟩ := rv.get hx
    have hel : e < s.heap.objs.size := Heap.lt_size he
    have hil : it < s.heap.objs.size := by obtain ⟨_, q, _⟩ := hit; exact Heap.lt_size q
    have D := Draws.tuple (prog := X.prog) (w := X.w) (A := X.A.in1) (I.ok.hd hc) it a hai its.toArray
    refine wpAny_pyNext_enum_itemD D he ⟨hit, p⟩ (by have := (List.getElem?_eq_some_iff.mp hu).1; simpa using this) hne (by simp [hne, Ne.symm hae]) fun x' h' tk hP ho hst hT hsz hk => ?_
    have ex : x' = u := by
      have : its[i]? = some x' := by simpa using hP
      rw [hu] at this; exact (Option.some.inj this).symm
    subst ex
    refine ⟨_, rfl, wpAny_letOwnedTupleGo_enum (s := { s with heap := h', toks := tk + 1 }) ho fun h'' he' sb => ?_⟩
    have hT2 : h''.get? s.heap.objs.size = some { cls := .type "tuple", data := .seq #[.int i tk, x'] } := (sb.2 _ (Nat.ne_of_gt hel)).trans hT
    have pair : ObjOk X.prog X.w (upd H s.heap.objs.size (.tup [.int (i : Nat), x])) h'' s.heap.objs.size (.tup [.int (i : Nat), x]) :=
      ⟨by show 2 ≤ sizeLine; decide, [.int i tk, x'], .cons ⟨_, rfl⟩ (.cons ru .nil), ⟨_, hT2, rfl, _, rfl⟩⟩
    have nb : ∀ b : Addr, b ∉ [e, it] → b ≠ e ∧ b ≠ it := fun b hb => ⟨fun z => hb (by simp [z]), fun z => hb (by simp [z])⟩
    have I1 : Inv X pins σ (upd H s.heap.objs.size (.tup [.int (i : Nat), x])) { s with heap := h'', toks := tk + 1 } :=
      I.turnedNew (ch := [e, it]) (fun b ob hb q => (sb.2 b (nb b hb).1).trans (hk b ob (nb b hb).1 (nb b hb).2 q)) hf (Nat.le_refl _) pair
    refine ⟨.ref s.heap.objs.size, _, I1, rfl, ⟨_, x, rfl, I.hok.fresh (Nat.le_refl _), rfl, fun ys hy => by rw [I.tuple_inj hy hq]; exact hx⟩, ⟨⟨x', ?_⟩, hst.1.at fun o q => (sb.2 it (Ne.symm hne)).trans q, hne⟩, fun b hb => ?_⟩
    · rw [show ((i + 1 : Nat) : Int) = (i : Int) + 1 by omega]; exact he'
    · have hb' : b ≠ s.heap.objs.size := by
        have : b = e ∨ b = it := by simpa using hb
        rcases this with rfl | rfl
        · exact Nat.ne_of_lt hel
        · exact Nat.ne_of_lt hil
      rw [upd_ne hb']
      exact (hf b hb).1
  done := by
    rintro X rfl rfl rfl hc i pins s σ H E I hf ⟨⟨old, he⟩, hit, hne⟩ ⟨xs, hq, hx⟩
    obtain ⟨its, rv, p, hz⟩ := I.tuple hq
    obtain ⟨f0, f1, f2, f3, f4, f5⟩ := hf it (by simp)
    have hl := rv.length
    exact next_enumT (I.ok.hd hc) he hit p (by simp; omega) fun h' eb => ⟨rfl, I.turned (t' := s.toks) (fun b o hb q => eb b o hb q) f0 f1 f3 f4 f5⟩
  self := fun A i s Q E ⟨⟨_, he⟩, _⟩ h => wpAny_pyIter_enum he h
def iEnumB (K : PySem.W.Frag) (ta : TA) : TI := fun σ H R => ta σ H fun vs H1 => ∃ a, vs = [.ref a] ∧ ((∃ xs, SqL K H1 a xs ∧ R (Ite K a) H1) ∨ ∃ xs, SqT K H1 a xs ∧ R (IteT K a) H1)
theorem pi_enumB {X : Cx} {e : Expr} {ta : TA} {p pos tpos : Pos} {elts : List Expr} {kk : Nat} (hg : Gl X "enumerate") (hm : X.mg "enumerate" = none) (ha : PA X [e] ta) (hs : starEach [e] X.env = [(false, eval e X.env)] := by rfl) :
    PI X (.Tuple elts kk tpos) (.Call (.Name "enumerate" p) [e] [] pos) (iEnumB X.K ta) := by
  refine ⟨fun pins s σ H R I h => Call_ (ld_blt I hg hm boot_enumerate (PyProof.Rows.callWith_type1 (thn (ha.run pos pins s σ H _ I h) fun us s1 ⟨vs, H1, I1, r1, q1⟩ => ?_) hs rfl))⟩
  obtain ⟨a, rfl, q⟩ := q1
  cases r1 with
  | cons r rr =>
    cases rr
    cases r
    have two : ∀ {b : Addr}, b ∈ [s1.heap.objs.size + 1, s1.heap.objs.size] → s1.heap.objs.size ≤ b := fun {b} hb => by
      have : b = s1.heap.objs.size + 1 ∨ b = s1.heap.objs.size := by simpa using hb
      rcases this with rfl | rfl
      · exact Nat.le_succ _
      · exact Nat.le_refl _
    rcases q with ⟨xs, hq, q⟩ | ⟨xs, hq, q⟩
    · obtain ⟨its, rv, p', hz⟩ := I1.list hq
      refine call_enumerate_list p'.isList fun h' he hit hsz hk => wpAny_pyIter_enum he ?_
      have I2 : Inv X pins σ H1 { s1 with heap := h' } := I1.kept (t' := s1.toks) hk
      exact ⟨s1.heap.objs.size + 1, [s1.heap.objs.size + 1, s1.heap.objs.size], _, _, H1, rfl, I2, turn_enum a (s1.heap.objs.size + 1) s1.heap.objs.size, ⟨⟨.none, he⟩, hit, Nat.succ_ne_self _⟩, fun b hb => I1.fpOk (two hb) (I1.hok.fresh (two hb)), q⟩
    · obtain ⟨its, rv, p', hz⟩ := I1.tuple hq
      have hal : a < s1.heap.objs.size := by obtain ⟨_, z, _⟩ := p'; exact Heap.lt_size z
      refine callType_new F.called_enumerate (by decide) (F.typeCall_enumerate_1 _) (F.newCall_enumerate_1 _) (fun obj => F.args_object_init_2 obj _) F.entry_enumerate_new (meets_enumT _ _ _ (begins_tuple a its.toArray)) ⟨p', ?_⟩
      have hz1 : (s1.heap.push { cls := .type "tuple_iterator", data := .fields #[.ref a, .int 0 0] }).objs.size = s1.heap.objs.size + 1 := Heap.size_push ..
      show _ ∧ _
      rw [hz1]
      have he : IsEnum ((s1.heap.push { cls := .type "tuple_iterator", data := .fields #[.ref a, .int 0 0] }).push { cls := .type "enumerate", data := .fields #[.none, .bool false, .ref s1.heap.objs.size, rawInt 0, .none, .none] }) (s1.heap.objs.size + 1) s1.heap.objs.size 0 .none := by
        have := Heap.get?_push_size (s1.heap.push { cls := .type "tuple_iterator", data := .fields #[.ref a, .int 0 0] }) (o := { cls := .type "enumerate", data := .fields #[.none, .bool false, .ref s1.heap.objs.size, rawInt 0, .none, .none] }) rfl
        rw [hz1] at this
        exact this
      refine ⟨⟨_, he, rfl⟩, wpAny_pyIter_enum he ?_⟩
      have I2 := I1.kept (t' := s1.toks) (h' := (s1.heap.push { cls := .type "tuple_iterator", data := .fields #[.ref a, .int 0 0] }).push { cls := .type "enumerate", data := .fields #[.none, .bool false, .ref s1.heap.objs.size, rawInt 0, .none, .none] }) fun b o x => Heap.get?_push_of_some _ (Heap.get?_push_of_some _ x)
      exact ⟨s1.heap.objs.size + 1, [s1.heap.objs.size + 1, s1.heap.objs.size], _, _, H1, rfl, I2, turn_enumT a (s1.heap.objs.size + 1) s1.heap.objs.size (Nat.ne_of_lt hal) (Nat.ne_of_lt (Nat.lt_succ_of_lt hal)), ⟨⟨.none, he⟩, ⟨_, Heap.get?_push_of_some _ (Heap.get?_push_size _ rfl), rfl, rfl⟩, Nat.succ_ne_self _⟩, fun b hb => I1.fpOk (two hb) (I1.hok.fresh (two hb)), q⟩
section
variable {X : Cx} {R : Fr} {e : Expr} {fs : PTA} {p pos tpos : Pos}
def qiEnumB (fs : PTA) : PTI := fun Γ O Q => fs Γ O fun dvs O1 => match dvs with
  | [x] => match rd O1 x with
    | some (.list xs) => Q ⟨enumD 0 xs, okOf O1 x (.list xs)⟩ O1
    | some (.tuple xs) => Q ⟨enumD 0 xs, okOf O1 x (.tuple xs)⟩ O1
    | _ => False
  | _ => False
theorem iw_enumB {elts : List Expr} {kk : Nat} (hm : X.mg "enumerate" = none) (ha : AW X R [e] fs) (hg : Gl X "enumerate" := by rfl) (hs : starEach [e] X.env = [(false, eval e X.env)] := by rfl) :
    IW X R (.Tuple elts kk tpos) (.Call (.Name "enumerate" p) [e] [] pos) (qiEnumB fs) := by
  intro S V H σ Γ Q r sl q P k
  refine ⟨_, pi_enumB hg hm wA_pa hs, wA_mono (ha S V H σ Γ _ r sl q) fun vs H1 ⟨S1, V1, dvs, r1, e1, d1, q1⟩ => ?_⟩
  dsimp only at q1
  split at q1
  · rename_i x
    cases d1 with
    | cons dx d2 =>
      cases d2
      split at q1
      · rename_i xs hx
        obtain ⟨a, us, rfl, ha', hda⟩ := rd_lst r1 dx hx
        refine ⟨a, rfl, .inl ⟨us, SqL.of ha', k _ S1 V1 H1 _ r1 e1 (fun i S V H e r ok => ?_) q1⟩⟩
        obtain ⟨a', us', ea, ha2, hda2⟩ := rd_ok e r dx hx ok
        cases ea
        refine ⟨fun d hd => ?_, fun hi => ⟨us', SqL.of ha2, by
          have : (enumD 0 xs).length ≤ i := hi
          rw [enumD_len] at this
          rw [hda2.length]
          exact this⟩⟩
        obtain ⟨z, h1, rfl⟩ := enumD_get hd
        obtain ⟨u, g1, g2⟩ := hda2.get h1
        refine ⟨⟨us', u, SqL.of ha2, g1⟩, fun v H' ⟨T, x', hv, hT, hH, f1⟩ => ?_⟩
        have i1 := f1 us' (SqL.of ha2)
        rw [g1] at i1
        cases i1
        subst hv hH
        obtain ⟨r', e'⟩ := r.new (o := .tup [.int (i : Nat), u]) hT
        refine ⟨_, r', e', .tup (SqT.of upd_same) (.cons (by rw [Nat.zero_add]; exact .int _) (.cons (g2.mono e'.v) .nil)), same_new' hT, fun b hb => ?_⟩
        by_cases q : b = T
        · rw [q]; exact .inr hT
        · rw [upd_ne q] at hb; exact .inl hb
      · rename_i xs hx
        obtain ⟨a, us, rfl, ha', hda⟩ := rd_tup r1 dx hx
        have hb : ∀ {S' : List Cell} {V' H' : Hp}, Ext S1 V1 S' V' → Rep X.K R S' V' H' → SqT X.K H' a us ∧ DqL X.K V' us xs := fun {S' V' H'} e r => ⟨same_seqT r.vh (same_seqT e.v ha'), hda.mono e.v⟩
        refine ⟨a, rfl, .inr ⟨us, same_seqT r1.vh ha', k _ S1 V1 H1 _ r1 e1 (fun i S V H e r ok => ?_) q1⟩⟩
        obtain ⟨ha2, hda2⟩ := hb e r
        refine ⟨fun d hd => ?_, fun hi => ⟨us, ha2, by
          have : (enumD 0 xs).length ≤ i := hi
          rw [enumD_len] at this
          rw [hda2.length]
          exact this⟩⟩
        obtain ⟨z, h1, rfl⟩ := enumD_get hd
        obtain ⟨u, g1, g2⟩ := hda2.get h1
        refine ⟨⟨us, u, ha2, g1⟩, fun v H' ⟨T, x', hv, hT, hH, f1⟩ => ?_⟩
        have i1 := f1 us ha2
        rw [g1] at i1
        cases i1
        subst hv hH
        obtain ⟨r', e'⟩ := r.new (o := .tup [.int (i : Nat), u]) hT
        refine ⟨_, r', e', .tup (SqT.of upd_same) (.cons (by rw [Nat.zero_add]; exact .int _) (.cons (g2.mono e'.v) .nil)), same_new' hT, fun b hb => ?_⟩
        by_cases q : b = T
        · rw [q]; exact .inr hT
        · rw [upd_ne q] at hb; exact .inl hb
      · exact q1.elim
  · exact q1.elim
end
end PW

/-! U24: defs that want to know that no repr is under way (for repr of lists and tuples) -/
namespace PW
open PySem PySem.Spec PyProof.Rows L2
/-- a promise for calls where no repr is under way -/
structure FnG (P : Program) (w : World) (K : PySem.W.Frag) (mg : Str → Option Value) (base : Heap) (k : Nat) (f : Addr) (fd : FuncData) (ps : List Str) (psp : PSp) : Prop where
  len : ∀ vs H Q E, liftSp K psp vs H Q E → vs.length = ps.length
  run : ∀ (A : Around) (outer : List Env) (s : Shared) (H : Hp) (args : Args) (us : List Value) (vs : List L2.V) (Q : VK) (E : XK), A.guards = some [] → Room k A → Env0 P w K mg base A outer s H → BindsTo s fd args (ps.zip us) → Vals vs us → liftSp K psp vs H Q E →
    codeAny (model P w) A (.call (.ref f) args) (CR CX0 outer P w H s Q E) s
section
variable {P : Program} {w : World} {K : PySem.W.Frag} {mg : Str → Option Value} {base : Heap}
theorem FnG.mono {j k : Nat} {f : Addr} {fd : FuncData} {ps : List Str} {psp : PSp} (F : FnG P w K mg base j f fd ps psp) (h : j ≤ k) : FnG P w K mg base k f fd ps psp :=
  ⟨F.len, fun A outer s H args us vs Q E hg hr => F.run A outer s H args us vs Q E hg (hr.mono h)⟩
theorem fnG {x qual : Str} {st : Stmt} {f : Addr} {fd : FuncData} {N ps : List Str} {k : Nat} {psp : PSp} {F : PTS} (Fn : Fun K x qual st f fd) (Sc : FnScope N ps (defScope st))
    (body : ∀ (cdv : Value) (A : Around) (outer : List Env) (s : Shared) (H : Hp) (E : XK), (A.deeper (envOfC qual (defScope st) s.heap.objs.size f cdv)).guards = some [] → Room k (A.deeper (envOfC qual (defScope st) s.heap.objs.size f cdv)) → ∀ R : Fr, BW (cxOf CX0 P w K mg base N qual (defScope st) f cdv A outer s H E).nox R (defBody st) F)
    (h : ∀ dvs O PQ, psp dvs O PQ → dvs.length = ps.length ∧ F { nx := fun _ O' => RetN O.length PQ (.d .none) O', rt := RetN O.length PQ } (startG N dvs) O) : FnG P w K mg base (k + 1) f fd ps psp := by
  have len : ∀ vs H Q E, liftSp K psp vs H Q E → vs.length = ps.length := fun vs H Q E ⟨S, V, dvs, PQ, r, d, q, _⟩ => by rw [dvs_len d]; exact (h dvs _ PQ q).1
  refine ⟨len, fun A outer s H args us vs Q E hg hr e0 hb rv q => ?_⟩
  have hl := len _ _ _ _ q
  obtain ⟨oc, od, kV, doc, pm, an, cdv, ct, osl, rfl, lk, hcd⟩ := Fn.ex
  have old : ∀ b o, base.get? b = some o → s.heap.get? b = some o := fun b o e => (e0.bs b o e).1
  have hk : K.In s.heap := e0.mod.kin.keeps old
  refine codeAny_call_function hr.depth (hk _ _ lk) rfl Sc.co Sc.gen rfl (PySem.W.codeRec_of hk hcd) (hb _ _ _ _ (wpAny_newFunctionEnv_cells Sc.kind (fun y hy => ?_) fun env he s1 x => ?_))
  · rcases Sc.par y.1 (List.of_mem_zip (a := y.1) (b := y.2) hy).1 with q | q
    · exact .inl q
    · exact .inr ⟨q, PySem.W.cellsFrom_some _ _ _ (.inl q)⟩
  · subst he
    refine ⟨(e0.mod.nolimit.keeps old).keeps x.toInCall.keep, codeAny_func ?_⟩
    obtain ⟨S, V, dvs, PQ, r, d, q, k⟩ := q
    have hq := (h dvs _ PQ q).2
    rw [show (obs S).length = S.length from List.length_map ..] at hq
    have wb : wB (cxOf CX0 P w K mg base N qual (defScope st) f cdv A outer s H E).nox (defBody st) { nx := fun _ H' => Q .non H', rt := Q } (start N vs) H :=
      body cdv A outer s H E hg (hr.deeper _) (.here S V H) S V H _ _ _ _ r (slots_start d) hq ⟨fun σ' H' ⟨S', V', Γ', r', e', sl', q'⟩ => retn_ok k r' e' (dv := .d .none) .non q', fun v H' ⟨S', V', dv, r', e', d', q'⟩ => retn_ok k r' e' d' q', fun σ' H' ⟨S', V', Γ', r', e', sl', q'⟩ => q'.elim, fun σ' H' ⟨S', V', Γ', r', e', sl', q'⟩ => q'.elim⟩
    have I : Inv (cxOf CX0 P w K mg base N qual (defScope st) f cdv A outer s H E) [] (start N vs) H s1 := inv_start Sc hr.hd e0 hl rv x
    refine wpAny_mono (wB_pss.nox.run [] s1 (start N vs) H _ I wb) (fun fl s' hs => ?_) fun e s' hs => hs
    cases fl with
    | ret u =>
      obtain ⟨v, σ', H', J, rv, q⟩ := hs
      exact ⟨v, H', J.os, J.bare, J.base, J.hok, rv, q⟩
    | next =>
      obtain ⟨σ', H', J, q⟩ := hs
      exact ⟨.non, H', J.os, J.bare, J.base, J.hok, rfl, q⟩
    | brk => exact hs.choose_spec.choose_spec.2.elim
    | cont => exact hs.choose_spec.choose_spec.2.elim
end
section
variable {X : Cx} {R : Fr} {e o : Expr} {es : List Expr} {fs : PTA} {f : PTE} {pos p : Pos}
/-- the call of such a def, where no repr is under way -/
theorem ew_callG {k : Nat} {fa : Addr} {fd : FuncData} {ps : List Str} {psp : PSp} {x : Str} (hgd : X.A.guards = some []) (F : FnG X.prog X.w X.K X.mg X.base k fa fd ps psp) (hr : Room k X.A) (hm : X.mg x = some (.ref fa)) (hk : PySem.W.keepIn X.K (.ref fa) = true) (hb : Binds X.K fd ps [])
    (ha : AW X R (e :: es) fs) (hg : Gl X x := by rfl) (hdb : (x == ("__debug__" : Str)) = false := by decide) (he : starEach (e :: es) X.env = (false, eval e X.env) :: starEach es X.env := by rfl) (hpl : (backTo pos (starEach es X.env)).any (·.1) = false := by rfl) :
    EW X R (.Call (.Name x p) (e :: es) [] pos) (qCall psp fs) := by
  intro S V H σ Γ Q r sl q pins s I
  refine wpAny_Call_Name_kw (ld_glob I hg hm ?_ hdb)
  refine PySem.W.callWith_K (h₀ := X.base) I.ok.mod.kin hk (thn (wA_mono (ha S V H σ Γ _ r sl q) (fun vs H1 h => h) pos pins s I) fun us s1 ⟨vs, H1, I1, rv, S1, V1, dvs, r1, e1, d1, q1⟩ => ⟨I1.kIn, ?_⟩) he hpl
  have h : liftSp X.K psp vs H1 (PostE X.K R S1 V1 Q) E0 := app_ok (E := E0) r1 d1 q1
  have hl : us.length = ps.length := by rw [← rv.length]; exact F.len _ _ _ _ h
  refine wpAny_call (codeAny_mono (F.run X.A X.stack s1 H1 ⟨us, []⟩ us vs _ E0 hgd hr I1.env0 (by have := hb s1 us I1.kIn (by rw [List.append_nil]; exact hl); rw [List.append_nil] at this; exact this) rv h) fun rs s' hq => ?_)
  cases rs with
  | error e => exact pass0 pins σ H1 s1 e s' I1 hq
  | ok fl =>
    cases fl with
    | ret u =>
      obtain ⟨v, H', I', rv', q'⟩ := I1.after hq
      exact ⟨v, H', I', rv', PostE.ext e1 q'⟩
    | next => exact False.elim hq
    | brk => exact False.elim hq
    | cont => exact False.elim hq
/-- repr(e) of a list or a tuple -/
def isDisp : PyData → Bool
  | .list _ | .tuple _ => true
  | _ => false
def qRepr (f : PTE) : PTE := fun Γ O Q => f Γ O fun dv O1 => match rd O1 dv with
  | some d => (isDisp d = true ∧ d.leavesShort 13 = true ∧ d.bulk ≤ 1048576 ∧ d.depth ≤ 60 ∧ d.showable = true ∧ d.hasDict = false) ∧ Q (.d (.str d.shown)) O1
  | none => False
theorem ew_repr (hgd : X.A.guards = some []) (hu : X.A.units + 65 < cLine) (hm : X.mg "repr" = none) (ha : EW X R e f) (hg : Gl X "repr" := by rfl) (he : starEach [e] X.env = (false, eval e X.env) :: starEach [] X.env := by rfl) (hpl : (backTo pos (starEach [] X.env)).any (·.1) = false := by rfl) :
    EW X R (.Call (.Name "repr" p) [e] [] pos) (qRepr f) := by
  intro S V H σ Γ Q r sl q
  have hc : CallR X (.builtin "repr") fun xs H1 Q1 => ∃ v d, xs = [v] ∧ Dp X.K H1 v d ∧ (isDisp d = true ∧ d.leavesShort 13 = true ∧ d.bulk ≤ 1048576 ∧ d.depth ≤ 60 ∧ d.showable = true ∧ d.hasDict = false) ∧ Q1 (.str d.shown) H1 := by
    intro pins s σ H1 xs us Q1 I rx ⟨v, d, ex, hd, ⟨h1, h2, h3, h4, h5, h6⟩, q1⟩
    subst ex
    cases rx with
    | cons r1 r2 =>
      cases r2
      rename_i u
      obtain ⟨as, hr⟩ := Dp.reads I d v u hd r1
      have : ∃ a, u = Value.ref a := by
        cases hd <;> first | exact ⟨_, r1⟩ | cases h1
      obtain ⟨a, rfl⟩ := this
      exact repr_of_reads' hr h5 (fun z => by rw [h6] at z; cases z) hgd (by omega) (fun _ _ e => e) (fun h' u tk hk => ⟨.str d.shown, H1, I.kept (t' := tk) hk, ⟨_, rfl⟩, q1⟩) (PyData.shown_fits_bulk (B := 13) (by decide) (by decide) h2 h3)
  refine wE_of (pe_callB hc hg hm (by decide +kernel) (pa_cons wE_pe pa_nil he) (by decide) (by decide) he hpl) (wE_mono (ha S V H σ Γ _ r sl q) fun v H1 ⟨S1, V1, dv, r1, e1, d1, q1⟩ => ?_)
  dsimp only at q1
  split at q1
  · rename_i d hd
    exact ⟨v, d, rfl, (rd_dq r1 d1 hd).dp, q1.1, PostE.ext e1 (.hd r1 (.str _) q1.2)⟩
  · exact q1.elim
end
/-! ### the law -/
theorem law_callG {P : Program} {w : World} {K : PySem.W.Frag} {mg mb : Str → Option Value} {k : Nat} {fa a : Addr} {fd : FuncData} {x : Str} {sh : Shared} {vs : List Value} {ns : List Int}
    (kin : K.In sh.heap)
    (nsm : sh.heap.Ns mainGlobals mg) (hb : sh.heap.Ns builtinsNs mb) (bnat : ∀ x : Str, x ≠ "__name__" → mb x = bootBuiltins x) (nlim : sh.heap.NoLimit) (hg : sh.gens = #[])
    (ha : sh.heap.get? a = some { cls := .type "list", data := .seq vs.toArray }) (hi : IntsAre vs ns) (hl : ns.length ≤ sizeLine) (hl2 : ns.length ≤ 100) (hr : Room k callerA)
    (F : ∀ base : Heap, K.In base → base.Ns mainGlobals mg → FnG P w K mg base k fa fd [x] (pspLaw K)) (bnd : ∀ (s : Shared) (u : Value), BindsTo s fd ⟨[u], []⟩ [(x, u)]) :
    codeAny (model P w) callerA (.call (.ref fa) ⟨[.ref a], []⟩) (fun r t => r = .ok (.ret (.bool true)) ∧ OldK sh.heap t.heap ∧ t.os = sh.os ∧ AllBare t.gens) sh := by
  have rv := vals_ints hi
  have lnv := hi.length
  -- the script is the one thing that is looked at, where it is no object of the module
  let L : HO := .frz { cls := .type "list", data := .seq vs.toArray } (.lst (ns.map V.int))
  let H : Hp := fun b => if b = a ∧ K.lookup a = none then some L else none
  have hH : ∀ {b : Addr} {u : HO}, H b = some u → b = a ∧ K.lookup a = none ∧ u = L := fun {b u} e => by
    by_cases hc : b = a ∧ K.lookup a = none
    · have := (if_pos hc).symm.trans e
      exact ⟨hc.1, hc.2, (Option.some.inj this).symm⟩
    · have := (if_neg hc).symm.trans e
      cases this
  have hok : HOk P w H sh.heap := fun b u e => by
    obtain ⟨rfl, _, rfl⟩ := hH e
    exact ⟨ha, by rw [List.length_map]; exact hl, vs, _, rv, ha⟩
  have hS : SqL K H a (ns.map V.int) := by
    cases q : K.lookup a with
    | none => exact .inl (.inr ⟨_, if_pos ⟨rfl, q⟩⟩)
    | some o =>
      have e := kin a o q
      rw [ha] at e
      cases e
      exact .inr ⟨_, vs.toArray, _, q, rfl, rfl, rfl, by rw [List.size_toArray, lnv]; exact hl, by simpa using rv⟩
  have hid : ∀ {b : Addr} {o : Obj}, sh.heap.get? b = some o → H b = none → (hidT sh.heap H).get? b = some o := fun e n => hidT_get e n
  have nodict : ∀ {b : Addr} {o : Obj} {es : Array DictEntry} {ep : Nat}, sh.heap.get? b = some o → o.data = .dict es ep → H b = none := fun {b o es ep} e d => by
    cases q : H b with
    | none => rfl
    | some u =>
      obtain ⟨rfl, _, _⟩ := hH q
      rw [ha] at e
      cases e
      cases (show Data.seq vs.toArray _ = Data.dict es ep from d)
  have nsOf : ∀ {b : Addr} {m : Str → Option Value}, sh.heap.Ns b m → (hidT sh.heap H).Ns b m := fun {b m} ⟨o, es, ep, e, d, z⟩ => ⟨o, es, ep, hid e (nodict e d), d, z⟩
  have inOf : K.In (hidT sh.heap H) := fun b o e => hid (kin b o e) (by
    cases q : H b with
    | none => rfl
    | some u =>
      obtain ⟨rfl, z, _⟩ := hH q
      rw [z] at e; cases e)
  have md : Mod K mg (hidT sh.heap H) := ⟨inOf, nsOf nsm, ⟨mb, nsOf hb, bnat⟩, let ⟨mc, h1, h2⟩ := nlim; ⟨mc, nsOf h1, h2⟩⟩
  have env : Env0 P w K mg (hidT sh.heap H) callerA [] sh H := ⟨rfl, md, fun b o e => of_hidT e, Nat.le_of_eq (hidT_size _ _), trivial, fun b hb => absurd (show b ∈ ([] : List Addr) from hb) (by simp), hok, .of_eq hg⟩
  have q : liftSp K (pspLaw K) [.ref a] H (fun v _ => v = .bl true) fun _ _ _ => False :=
    law_lift (K := K) [.ref a] H (fun v _ => v = .bl true) (fun _ _ _ => False) ⟨a, ns, rfl, hS, hl2, fun _ => rfl⟩
  refine codeAny_mono ((F _ inOf (nsOf nsm)).run callerA [] sh H ⟨[.ref a], []⟩ [.ref a] [.ref a] _ _ rfl hr env (bnd sh (.ref a)) (.cons rfl .nil) q) fun r s' h => ?_
  cases r with
  | error e => exact False.elim h
  | ok fl =>
    cases fl with
    | next => exact False.elim h
    | brk => exact False.elim h
    | cont => exact False.elim h
    | ret u =>
      obtain ⟨v, H', os, bare, un, hok', r', rfl⟩ := h
      have hu : u = Value.bool true := r'
      subst hu
      refine ⟨rfl, OldK.of_keep (fun b o e => ?_), os, bare⟩
      cases q : H b with
      | none => exact un.keep b o e q (fun z => by cases (show b ∈ ([] : List Addr) from z)) (by simp)
      | some u =>
        obtain ⟨rfl, _, rfl⟩ := hH q
        obtain ⟨e2, _⟩ := hok' b _ (un.frzs b _ _ q)
        rw [ha] at e
        cases e
        exact e2
theorem walkLG {l : PySem.W.OpenLaw} {q : Program} {loose : List Str} {XP : (Str → Option Value) → Heap → Prop} {YP : World → Heap → Prop} {d : DefRec} {K : Params → PySem.W.Frag} (k : Nat) (hk : Room k callerA) (hn : l.most = some 63) (hdf : d.params.defaults = [])
    (hY : ∀ (w : World) (h : Heap), YP w h → (K w.params).In h)
    (F : ∀ (w : World) (mg : Str → Option Value) (fa : Addr) (h : Heap), (K w.params).In h → h.Ns mainGlobals mg → mg d.name = some (.ref fa) →
      ∃ fd : FuncData, (∀ (s : Shared) (u : Value), BindsTo s fd ⟨[u], []⟩ [("_law_script", u)]) ∧ ∀ base : Heap, (K w.params).In base → base.Ns mainGlobals mg → FnG l.prog w (K w.params) mg base k fa fd ["_law_script"] (pspLaw (K w.params))) :
    PySem.W.WalkO q loose XP YP l.row.toRowW d [] (fun f vs => PySem.call f vs) := by
  refine Att.attach_call hn hdf fun w s₀ sh mg mb fa o pm cd doc a vs ns G Y ho hd hcd hmg hscr hsi hlen hg => ?_
  have kin := hY w _ Y
  obtain ⟨fd, hb, hF⟩ := F w mg fa _ kin G.T.g hmg
  exact law_callG kin G.T.g G.T.b G.T.builtins G.T.nolimit hg hscr hsi (Nat.le_trans hlen (by decide)) (Nat.le_trans hlen (by decide)) hk hF hb
end PW

/-! U25: sorted(set(xs)) of ints; {} as a dict with flat keys -/
namespace PW
open PySem PySem.Spec PyProof.Rows L2
abbrev newSt (led : Bool) : Obj := { cls := .type "set", dict := none, data := .set #[] 0 (.fresh 0 0 led) }
theorem call_set_lsI {prog : Program} {w : World} {A : Around} {E : Value → Shared → Prop} {s : Shared} {l : Addr} {items : Array Value} (ns : List Int) {Q : Value → Shared → Prop} (hh : A.handled = none) (hl : s.heap.IsList l items) (hi : IntsAre items.toList ns) (hn : ns.length ≤ 1000)
    (h : ∀ (h' : Heap) (tk c : Nat), SetR w h' s.heap.objs.size (fun j => decide (j ∈ ns)) c → c ≤ ns.length → (∀ b o, b < s.heap.objs.size → s.heap.get? b = some o → h'.get? b = some o) → Q (.ref s.heap.objs.size) { s with heap := h', toks := tk }) : wpAny (model prog w) A (call (.type "set") [.ref l]) Q E s := by
  have f0 := PySem.F.called_set.mro
  obtain ⟨c, tl, hmro⟩ := f0
  have f1 := PySem.F.called_set.made
  have f2 := PySem.F.called_set.sub
  have f3 := PySem.F.called_set.notType
  have f4 := PySem.F.called_set.canCreate
  have f5 := PySem.F.typeCall_set_1 (.ref l)
  refine wpAny_call (codeAny_of_tree (show wpAny _ _ (callAny (.type "set") _) _ _ _ from ?_))
  refine wpAny_pure ⟨Code.quiet_builtin _ (by decide +kernel), codeAny_builtin PySem.F.entry_type_call ?_⟩
  rw [Around.under_plain (weight_type_call_type "set" [.ref l] []) rfl]
  repeat (any_goals (first | assumption | wp_step))
  refine codeAny_mono (code_set_led1 (.ref l) (E := E) (Q₁ := fun ob s₁ => ob = .ref s.heap.objs.size ∧ s₁ = { s with heap := s.heap.push (newSt (!w.params.followText "set-order")) }) ⟨rfl, rfl⟩) fun r s₁ hr => ?_
  obtain ⟨ob, rfl, rfl, rfl⟩ | q : (∃ ob, r = .ok (.ret ob) ∧ ob = .ref s.heap.objs.size ∧ s₁ = { s with heap := s.heap.push (newSt (!w.params.followText "set-order")) }) ∨ ∃ e, r = .error e ∧ E e s₁ := by
    cases r with
    | error e => exact .inr ⟨e, rfl, hr⟩
    | ok fl =>
      cases fl with
      | ret ob => exact .inl ⟨ob, rfl, hr⟩
      | _ => exact hr.elim
  case inr =>
    obtain ⟨e, rfl, he⟩ := q
    exact he
  generalize hled : (!w.params.followText "set-order") = led
  have at0 : (s.heap.push (newSt led)).get? s.heap.objs.size = some (newSt led) := Heap.get?_push_size _ rfl
  have hT : Shared.TypeIs { s with heap := s.heap.push (newSt led) } (.ref s.heap.objs.size) "set" := ⟨_, at0, rfl⟩
  have g1 := PySem.F.called_set.init.lookup
  have g2 := PySem.F.called_set.init.bind (.ref s.heap.objs.size)
  repeat (any_goals (first | assumption | wp_step))
  refine codeAny_mono (codeAny_call_builtin (R := wants (fun r s₂ => r = .none ∧ ∃ h' tk c, s₂ = { s with heap := h', toks := tk } ∧ SetR w h' s.heap.objs.size (fun j => decide (j ∈ ns)) c ∧ c ≤ ns.length ∧ (∀ b o, b < s.heap.objs.size → s.heap.get? b = some o → h'.get? b = some o)) E) PySem.F.called_set.init.plain PySem.F.entry_set_init (check_set_init_1 hT ?_)) fun r₂ s₂ hr₂ => ?_
  · obtain ⟨⟨oc, od, odt, osl⟩, hol, hcl, nl, hdl⟩ := hl
    simp only at hcl hdl
    subst hcl hdl
    have hol' : (s.heap.push (newSt led)).get? l = some { cls := .type "list", dict := od, data := .seq items nl, slots := osl } := Heap.get?_push_of_some _ hol
    have z1 := PySem.F.sub_list_set
    have z2 := PySem.F.sub_list_frozenset
    have z3 : (Value.type "list" == Value.type "dict") = false := by decide
    have hl1 : (s.heap.push (newSt led)).IsList l items := ⟨_, hol', rfl, nl, rfl⟩
    unfold Builtin.«set.__init__» noKeywords Builtin.Frozenset.updateFrom
    generalize hPI : pyIter = PI
    wp_walk
    subst hPI
    refine wpAny_pyIter_list hl1 (wpAny_bind (wpAny_runValue ?_))
    have lS : l < s.heap.objs.size := Heap.lt_size hol
    have sz1 : (s.heap.push (newSt led)).objs.size = s.heap.objs.size + 1 := Heap.size_push ..
    have hsz : items.size = ns.length := by rw [← IntsAre.length hi, Array.length_toList]
    have ne1 : l ≠ (s.heap.push (newSt led)).objs.size := sz1 ▸ Nat.ne_of_lt (Nat.lt_succ_of_lt lS)
    have hval : ∀ (i : Nat) (v : Value), items[i]? = some v → ∃ k t, ns[i]? = some k ∧ v = .int k t := fun i v hv => by
      have hil : i < ns.length := hsz ▸ (Array.getElem?_eq_some_iff.mp hv).1
      obtain ⟨t, e⟩ := PyProof.Rows.IntsAre.int_at hi i v (by rw [Array.getElem?_toList]; exact hv)
      rw [List.getD_eq_getElem?_getD, List.getElem?_eq_getElem hil] at e
      exact ⟨ns[i], t, List.getElem?_eq_getElem hil, e⟩
    refine set_update_ints ((Walks.list (show A.in1.in1.in1.handled = none by simp [hh]) _ l ne1 items).toS) s.heap.objs.size ?_ ns hsz (by unfold scanBound; omega) hval (items.size - 0) 0 _ (by omega) (Nat.zero_le _)
      ⟨⟨_, Heap.get?_push_size _ rfl, rfl, rfl⟩, hl1.push _⟩ ?_ ?_
    · rw [sz1]
      simp only [List.mem_cons, List.not_mem_nil, or_false, not_or]
      exact ⟨Nat.ne_of_lt (Nat.lt_succ_self _), Nat.ne_of_gt lS⟩
    · have at1 : ((s.heap.push (newSt led)).push { cls := .type "list_iterator", data := .fields #[.ref l, .int 0 0] }).get? s.heap.objs.size = some (newSt led) := Heap.get?_push_of_some _ at0
      exact ⟨0, Nat.le_refl 0, setR_new_at (by rw [at1, ← hled])⟩
    · intro s' c' hm hc' hS'
      obtain ⟨h', g', d', tk', os'⟩ := s'
      obtain rfl : g' = s.gens := hm.gens
      obtain rfl : d' = s.drawn := hm.drawn
      obtain rfl : os' = s.os := hm.os
      refine wpAny_pure (show wpAny _ _ (ret Value.none) _ _ _ from wpAny_pure ⟨rfl, h', tk', c', rfl, hS', hsz ▸ hc', fun b o hb e => ?_⟩)
      refine hm.heap b o ?_ (Heap.get?_push_of_some _ (Heap.get?_push_of_some _ e))
      simp only [List.mem_cons, List.not_mem_nil, or_false, not_or]
      exact ⟨Nat.ne_of_lt hb, sz1 ▸ Nat.ne_of_lt (Nat.lt_succ_of_lt hb)⟩
  · cases r₂ with
    | error e => exact hr₂
    | ok fl =>
      cases fl with
      | ret r =>
        obtain ⟨rfl, h', tk, c', rfl, hS', hc', hk'⟩ := hr₂
        repeat (any_goals (first | assumption | wp_step))
        exact h _ _ _ hS' hc' hk'
      | _ => exact hr₂.elim
/-- set(xs), xs a list of ints -/
def rSetLI (K : PySem.W.Frag) (w : World) : List L2.V → Hp → VK → Prop := fun xs H Q => ∃ (l : Addr) (ns : List Int), xs = [.ref l] ∧ SqL K H l (ns.map L2.V.int) ∧ ns.length ≤ 1000 ∧ ∀ p c, H p = none → c ≤ ns.length → Q (.ref p) (upd H p (SetO w p (fun j => decide (j ∈ ns)) c))
theorem cr_setLI {X : Cx} (hc0 : X.calm = true) : CallR X (.type "set") (rSetLI X.K X.w) := by
  intro pins s σ H xs us Q I r h
  obtain ⟨l, ns, rfl, hq, hn, q⟩ := h
  rw [Vals.ref1 r]
  obtain ⟨its, rv, p', hz⟩ := I.list hq
  have hi : IntsAre its.toArray.toList ns := by simpa using intsAre_of rv
  refine call_set_lsI ns (I.ok.hd hc0) p'.isList hi hn fun h' tk c hS hc hk => ?_
  exact ⟨.ref _, _, I.laid (t' := tk) (fun b u e => hk b u (Heap.lt_size e) e) (Nat.le_refl _) (setO_new hS), rfl, q _ c (I.hok.fresh (Nat.le_refl _)) hc⟩
end PW

/-! U26: sorted(set(xs)) of ints; {} as a dict to be filled -/
namespace PW
open PySem PySem.Spec PyProof.Rows L2
section
variable {X : Cx} {R : Fr} {a : Expr} {f : PTE} {pos p pos2 p2 : Pos}
theorem dq_ints {K : PySem.W.Frag} {V : Hp} : ∀ {ns : List Int} {vs : List L2.V}, DqL K V vs (ns.map PyData.int) → vs = ns.map L2.V.int
  | [], _, h => by cases h; rfl
  | n :: ns, _, h => by
    cases h with
    | cons h1 h2 =>
      cases h1
      rw [dq_ints h2]; rfl
/-- sorted(set(xs)) of ints -/
def qSortSet (f : PTE) : PTE := fun Γ O Q => f Γ O fun x O1 => match rd O1 x with
  | some (.list ds) => ∃ ns : List Int, ds = ns.map PyData.int ∧ ns.length < 60 ∧ ∀ us : List Int, us.Pairwise (· < ·) → (∀ k, k ∈ us ↔ k ∈ ns) → Q (.d (.list (us.map PyData.int))) O1
  | _ => False
theorem ew_sortSet (hc : X.calm = true) (hm : X.mg "sorted" = none) (hm2 : X.mg "set" = none) (ha : EW X R a f) (hg : Gl X "sorted" := by rfl) (hg2 : Gl X "set" := by rfl)
    (he : starEach [a] X.env = (false, eval a X.env) :: starEach [] X.env := by rfl) (hpl : (backTo pos2 (starEach [] X.env)).any (·.1) = false := by rfl)
    (he2 : starEach [Expr.Call (.Name "set" p2) [a] [] pos2] X.env = (false, eval (Expr.Call (.Name "set" p2) [a] [] pos2) X.env) :: starEach [] X.env := by rfl) (hpl2 : (backTo pos (starEach [] X.env)).any (·.1) = false := by rfl) :
    EW X R (.Call (.Name "sorted" p) [.Call (.Name "set" p2) [a] [] pos2] [] pos) (qSortSet f) := by
  intro S V H σ Γ Q r sl q
  refine wE_of (pe_callB (cr_sortedSet hc) hg hm (by decide +kernel) (pa_cons (pe_callTy (cr_setLI hc) hg2 hm2 (by decide +kernel) (pa_cons wE_pe pa_nil he) (by decide) (by decide) he hpl) pa_nil he2) (by decide) (by decide) he2 hpl2) ?_
  refine wE_mono (ha S V H σ Γ _ r sl q) fun v H1 ⟨S1, V1, dv, r1, e1, d1, q1⟩ => ?_
  dsimp only at q1
  split at q1
  · rename_i ds hx
    obtain ⟨ns, rfl, hn, k⟩ := q1
    obtain ⟨l, xs, rfl, hl, hd⟩ := rd_lst r1 d1 hx
    obtain rfl := dq_ints hd
    refine ⟨l, ns, rfl, SqL.of hl, by omega, fun p0 c hp0 hc0 => ?_⟩
    refine ⟨p0, _, c, rfl, upd_same, by omega, fun us p1 hs hm' _ hp1 => ?_⟩
    obtain ⟨r2, e2⟩ := r1.new (o := SetO X.w p0 (fun j => decide (j ∈ ns)) c) hp0
    obtain ⟨r3, e3⟩ := r2.new (o := .lst (us.map L2.V.int)) hp1
    exact PostE.ext ((e1.trans e2).trans e3) (.hd r3 (.lst upd_same (DqL.ints us)) (k us hs fun j => by rw [hm' j]; simp))
  · exact q1.elim
theorem ew_dgetKK {K : PySem.W.Frag} {o i : Expr} {g : PTE} (hK : X.K = K) (hu : X.A.units + 65 < cLine) (ho : EW X R o f) (hi : EW X R i g) (hs : NoSl i := by exact fun _ _ => rfl) : EW X R (.Subscript o i pos) (qDGetK K f g) := by
  subst hK
  exact ew_dgetK hu ho hi hs
/-- {}: a dict with flat keys, to be filled -/
theorem ew_dnewK : EW X R (.Dict [] [] pos) qDNewK := by
  intro S V H σ Γ Q r sl q
  refine wE_of pe_dnewK fun p hp => ?_
  obtain ⟨r2, e2⟩ := r.newOwn (o := .dK []) (ob := .dK []) hp ⟨rfl, [], upd_same, rfl, .nil⟩
  refine ⟨_, _, .o S.length, r2, e2, ⟨(p, [p], .dK []), by rw [List.getElem?_append_right (Nat.le_refl _)]; simp, rfl⟩, ?_⟩
  have ho : obs (S ++ [(p, [p], .dK [])]) = obs S ++ [.dK []] := by simp [obs]
  have hl : (obs S).length = S.length := by simp [obs]
  rw [ho, ← hl]
  exact q
theorem ew_dnewT : EW X R (.Dict [] [] pos) qDNewT := by
  intro S V H σ Γ Q r sl q
  refine wE_of pe_dnewT fun p hp => ?_
  obtain ⟨r2, e2⟩ := r.newOwn (o := .dT []) (ob := .dT []) hp ⟨rfl, [], upd_same, rfl, .nil⟩
  refine ⟨_, _, .o S.length, r2, e2, ⟨(p, [p], .dT []), by rw [List.getElem?_append_right (Nat.le_refl _)]; simp, rfl⟩, ?_⟩
  have ho : obs (S ++ [(p, [p], .dT [])]) = obs S ++ [.dT []] := by simp [obs]
  have hl : (obs S).length = S.length := by simp [obs]
  rw [ho, ← hl]
  exact q
end
end PW

/-! U27: a, b, .. = x, y, .. by way of a tuple; the values may be owned things -/
namespace PW
open PySem PySem.Spec PyProof.Rows L2
abbrev PTGv := List DV → PEnv → List Ob → QN → Prop
def GvW (X : Cx) (R : Fr) (tgs : List Expr) (g : PTGv) : Prop := ∀ (S : List Cell) (V H : Hp) (σ : L2.St) (Γ : PEnv) (vs : List L2.V) (dvs : List DV) (Q : QN), Rep X.K R S V H → Slots X.K S V σ Γ → DVs X.K S V vs dvs → g dvs Γ (obs S) Q → wGs X tgs vs σ H (LiftN X.K R S V Q)
section
variable {X : Cx} {R : Fr} {pos p2 p3 : Pos} {fs : PTA}
def qvNil : PTGv := fun dvs Γ O Q => match dvs with
  | [] => Q Γ O
  | _ => False
def qvCons (g : PTG) (gs : PTGv) : PTGv := fun dvs Γ O Q => match dvs with
  | d :: r => g d Γ O fun Γ1 O1 => gs r Γ1 O1 Q
  | _ => False
theorem gvw_nil : GvW X R [] qvNil := by
  intro S V H σ Γ vs dvs Q r sl d q
  cases d with
  | nil => exact wGs_of pgs_nil ⟨rfl, S, V, Γ, r, Ext.refl, sl, q⟩
  | cons _ _ => exact q.elim
theorem gvw_cons {t : Expr} {ts : List Expr} {g : PTG} {gs : PTGv} (h1 : GW X R t g) (h2 : GvW X R ts gs) (hs : (assignEach (t :: ts) X.env).map (·.2) = assign t X.env :: (assignEach ts X.env).map (·.2) := by rfl) : GvW X R (t :: ts) (qvCons g gs) := by
  intro S V H σ Γ vs dvs Q r sl d q
  cases d with
  | nil => exact q.elim
  | cons d1 d2 =>
    refine wGs_of (pgs_cons wG_pg wGs_pgs hs) ⟨_, _, rfl, wG_mono (h1 S V H σ Γ _ _ _ r sl d1 q) fun σ1 H1 ⟨S1, V1, Γ1, r1, e1, sl1, q1⟩ => ?_⟩
    exact wGs_mono (h2 S1 V1 H1 σ1 Γ1 _ _ Q r1 sl1 (DVs.mono e1 d2) q1) fun _ _ z => z.ext e1
def qAsgV (n : Nat) (fs : PTA) (gs : PTGv) : PTS := fun PD Γ O => fs Γ O fun dvs O1 => small dvs.length = true ∧ dvs.length = n ∧ gs dvs Γ O1 PD.nx
theorem sw_asgV {ts es : List Expr} {gs : PTGv} {k n : Nat} {x1} (hc : X.calm = true) (ha : AW X R es fs) (hg : GvW X R ts gs) (hn : (assignEach ts X.env).length = n := by rfl) (hst : (assignEach ts X.env).findIdx? (·.1) = none := by rfl)
    (hs : swapsWithSole [.Tuple ts k p2] (.Tuple es x1 p3) pos.line X.env = pure false := by rfl) (hw : swappedStores [.Tuple ts k p2] (.Tuple es x1 p3) X.env = pure none := by rfl) (h1 : (assignEach [.Tuple ts k p2] X.env).map (·.2) = [assign (.Tuple ts k p2) X.env] := by rfl) :
    SW X R (.Assign [.Tuple ts k p2] (.Tuple es x1 p3) pos) (qAsgV n fs gs) := by
  intro S V H σ Γ PD D r sl q kk
  refine wS_of (ps_asg (pe_tup wA_pa) wG_pg hs hw h1) (wA_mono (ha S V H σ Γ _ r sl q) fun vs H1 ⟨S1, V1, dvs, r1, e1, d1, hsm, hl, q1⟩ => ?_)
  refine ⟨small_line hsm (dvs_len d1), fun p hp => ?_⟩
  obtain ⟨r2, e2⟩ := r1.new (o := .tup vs) hp
  refine wG_of (pg_tup hc wGs_pgs hn hst) ⟨p, vs, rfl, SqT.of upd_same, by rw [dvs_len d1]; exact hl, ?_⟩
  exact wGs_mono (hg _ _ _ σ Γ vs dvs _ r2 (sl.mono (e1.trans e2)) (DVs.mono e2 d1) q1) fun σ2 H2 z => kk.nx _ _ (z.ext (e1.trans e2))
end
end PW

/-! U28: sorted(set(xs)) of texts, some perhaps twice -/
namespace PW
open PySem PySem.Spec PyProof.Rows L2
/-- the text of a set's entry -/
def txE (e : Int × Value) : Str := match e.2 with
  | .str x _ => x
  | _ => Str.empty
def OkE (w : World) (e : Int × Value) : Prop := ∃ (x : Str) (u : Tok), e.2 = .str x u ∧ e.1 = hashStr w x
/-- a set of texts that can be walked -/
structure TxSet (P : Program) (w : World) (h : Heap) (a : Addr) (M : Str → Bool) (n : Nat) (ob : Obj) (es : Array (Int × Value)) (ep : Nat) (tb : SetTable) : Prop where
  at_ : h.get? a = some ob
  ex : ob.ExactSet
  dat : ob.data = .set es ep tb
  ok : ∀ e ∈ es.toList, OkE w e
  nd : (es.toList.map txE).Nodup
  mem : ∀ z, M z = true ↔ z ∈ es.toList.map txE
  few : es.size < scanBound
  fit : tb.fits es.size = true
  num : es.size = n
  ris : Ris tb.place.toList
  led : w.params.followText "set-order" = true ∨ tb.led = true
def TxR (P : Program) (w : World) (h : Heap) (a : Addr) (M : Str → Bool) (n : Nat) : Prop := ∃ ob es ep tb, TxSet P w h a M n ob es ep tb
section
variable {P : Program} {w : World} {h h' : Heap} {a : Addr} {M : Str → Bool} {n : Nat}
theorem TxR.at (R : TxR P w h a M n) (k : ∀ o, h.get? a = some o → h'.get? a = some o) : TxR P w h' a M n := by
  obtain ⟨ob, es, ep, tb, R⟩ := R
  exact ⟨ob, es, ep, tb, { R with at_ := k _ R.at_ }⟩
theorem TxR.congr {M' : Str → Bool} (R : TxR P w h a M n) (e : ∀ z, M' z = M z) : TxR P w h a M' n := by
  rw [show M' = M from funext e]; exact R
theorem okE_elems {l : List (Int × Value)} (g : ∀ e ∈ l, OkE w e) : ElemsOf (PySem.strKind P w) l := fun e he => by
  obtain ⟨x, u, e1, e2⟩ := g e he
  exact ⟨⟨x, by rw [e1]; exact strKind_is P w x u, e2⟩, by rw [e1] <;> rfl⟩
theorem okE_is {e : Int × Value} (g : OkE w e) (z : Str) : (PySem.strKind P w).is z e.2 = true ↔ txE e = z := by
  obtain ⟨x, u, e1, _⟩ := g
  constructor
  · intro q
    have hx : (PySem.strKind P w).is x e.2 = true := by rw [e1]; exact strKind_is P w x u
    have := (PySem.strKind P w).inj _ _ _ hx q
    unfold txE; rw [e1]; exact this
  · intro q
    unfold txE at q
    rw [e1] at q
    dsimp only at q
    rw [e1, ← q]
    exact strKind_is P w x u
theorem okE_mem {l : List (Int × Value)} (g : ∀ e ∈ l, OkE w e) (z : Str) : z ∈ l.map txE ↔ ∃ e ∈ l, (PySem.strKind P w).is z e.2 = true := by
  rw [List.mem_map]
  exact ⟨fun ⟨e, he, q⟩ => ⟨e, he, (okE_is (g e he) z).mpr q⟩, fun ⟨e, he, q⟩ => ⟨e, he, (okE_is (g e he) z).mp q⟩⟩
end
section
variable {P : Program} {w : World} {A : Around} {E : Value → Shared → Prop} {s : Shared} {a : Addr} {M : Str → Bool} {n : Nat}
theorem tx_store {g : Bool → Sem Unit} (hg : ∀ (b : Bool) (s₁ : Shared) (Q' : Unit → Shared → Prop), Q' () s₁ → wpAny (model P w) A (g b) Q' E s₁)
    {ob : Obj} {es : Array (Int × Value)} {ep : Nat} {tb : SetTable} (h0 : s.heap.get? a = some ob) (h1 : ob.ExactSet) (h2 : ob.data = .set es ep tb)
    {fs : Array (Int × Value)} {tc : SetTable} {M' : Str → Bool} (c1 : ∀ e ∈ fs.toList, OkE w e) (c2 : (fs.toList.map txE).Nodup) (c3 : ∀ z, M' z = true ↔ z ∈ fs.toList.map txE)
    (c4 : fs.size < scanBound) (c5 : tc.fits fs.size = true) (c6 : Ris tc.place.toList) (c7 : w.params.followText "set-order" = true ∨ tc.led = true) {was : Bool} {R : Option Bool → Shared → Prop}
    (k : ∀ h', Heap.SameBut a s.heap h' → TxR P w h' a M' fs.size → R (some true) { s with heap := h' }) :
    wpAny (model P w) A (do
        storeSet a fs tc
        if (!was && tc.tooFull) = true then do
            g (relayAll tc fs (SetTable.grown fs.size)).2.2
            storeSet a (relayAll tc fs (SetTable.grown fs.size)).1 (relayAll tc fs (SetTable.grown fs.size)).2.1
            pure (some true)
          else pure (some true)) R E s := by
  refine wpAny_bind (wpAny_storeSet_of h0 h2 ?_ (fits_of_scanBound c4))
  have i1 := store_at (es' := fs) (t' := tc) h0 h2
  have j1 := Heap.SameBut.update s.heap a (Obj.putSet fs tc)
  split
  · have r1 := relayAll_perm tc fs (SetTable.grown fs.size)
    have r2 := relayAll_fits tc fs (SetTable.grown fs.size)
    have r3 := relayAll_ris tc fs (SetTable.grown fs.size)
    have r4 := relayAll_led tc fs (SetTable.grown fs.size)
    generalize relayAll tc fs (SetTable.grown fs.size) = W at r1 r2 r3 r4 ⊢
    obtain ⟨gs, td, gave⟩ := W
    dsimp only at r1 r2 r3 r4 ⊢
    have z1 : gs.size = fs.size := by rw [← Array.length_toList, r1.length_eq, Array.length_toList]
    have z2 : gs.size < scanBound := z1 ▸ c4
    refine wpAny_bind (hg _ _ _ (wpAny_bind (wpAny_storeSet_of i1 rfl ?_ (fits_of_scanBound z2))))
    have i2 := store_at (es' := gs) (t' := td) i1 rfl
    refine wpAny_pure (k _ (j1.trans (Heap.SameBut.update _ a _)) ⟨_, gs, _, td, ⟨i2, h1, rfl, fun e he => c1 e (r1.mem_iff.mp he), (r1.map txE).nodup_iff.mpr c2, fun z => (c3 z).trans (r1.map txE).mem_iff.symm, z2, r2, z1, r3, ?_⟩⟩)
    exact c7.imp id fun q => r4.trans q
  · exact wpAny_pure (k _ j1 ⟨_, fs, _, tc, ⟨i1, h1, rfl, c1, c2, c3, c4, c5, rfl, c6, c7⟩⟩)
theorem tx_add {z : Str} {u : Tok} {Q : Bool → Shared → Prop} (R : TxR P w s.heap a M n) (room : n + 1 < scanBound)
    (k : ∀ h', Heap.SameBut a s.heap h' → TxR P w h' a (fun y => M y || decide (y = z)) (if M z = true then n else n + 1) → Q (!M z) { s with heap := h' }) :
    wpAny (model P w) A (setAddHashed a (.str z u) ((PySem.strKind P w).hash z)) Q E s := by
  obtain ⟨ob, es, ep, tb, R⟩ := R
  have y1 : (PySem.strKind P w).is z (.str z u) = true := strKind_is P w z u
  have y2 : (Value.str z u).scannable = true := rfl
  have y3 : ElemsOf (PySem.strKind P w) es.toList := okE_elems R.ok
  unfold setAddHashed setAddHashedIn
  refine wpAny_holding (wpAny_bind (wpAny_setState_of R.at_ R.dat R.fit ?_))
  dsimp only
  rw [byScan_of y2 R.few y3]
  simp only [↓reduceIte]
  unfold setAddByScan
  refine wpAny_bind (wpAny_bind (wpAny_rule (wpAny_bind (wpAny_setScan_of y1 R.at_ R.dat R.fit y3 ?_))))
  cases hf : List.findIdx? (fun e => (PySem.strKind P w).is z e.2) es.toList with
  | some j =>
    dsimp only
    obtain ⟨hj, pj, _⟩ := List.findIdx?_eq_some_iff_getElem.mp hf
    have hM : M z = true := (R.mem z).mpr ((okE_mem (P := P) R.ok z).mpr ⟨es.toList[j], List.getElem_mem hj, pj⟩)
    have hm2 : ∀ y, (M y || decide (y = z)) = true ↔ y ∈ es.toList.map txE := fun y => by
      rw [Bool.or_eq_true, decide_eq_true_eq, ← R.mem y]
      exact ⟨fun o => o.elim id fun e => by rw [e]; exact hM, .inl⟩
    have q := k s.heap (Heap.SameBut.refl a s.heap) ⟨ob, es, ep, tb, { R with mem := hm2, num := (by rw [if_pos hM]; exact R.num) }⟩
    rw [hM] at q
    exact wpAny_pure (wpAny_pure q)
  | none =>
    dsimp only
    have hn : z ∉ es.toList.map txE := fun o => by
      obtain ⟨e, he, q⟩ := (okE_mem (P := P) R.ok z).mp o
      have := List.findIdx?_eq_none_iff.mp hf e he
      rw [q] at this
      cases this
    have hM : M z = false := by
      cases q : M z with
      | true => exact (hn ((R.mem z).mp q)).elim
      | false => rfl
    have hgw : ∀ (b : Bool) {s₁ : Shared} {Q' : Unit → Shared → Prop}, Q' () s₁ → wpAny (model P w) A (match b with | true => rule "set.scan.the-table-gave-way" | false => pure ()) Q' E s₁ := by
      intro b s₁ Q' q
      cases b
      · exact wpAny_pure q
      · exact wpAny_rule q
    have r1 := layNew_perm tb es ((PySem.strKind P w).hash z) (.str z u)
    have r2 := layNew_fits tb es ((PySem.strKind P w).hash z) (.str z u)
    have r3 := layNew_ris tb es ((PySem.strKind P w).hash z) (.str z u) R.ris
    have r4 := layNew_led tb es ((PySem.strKind P w).hash z) (.str z u)
    generalize layNew tb es ((PySem.strKind P w).hash z) (.str z u) = W at r1 r2 r3 r4 ⊢
    obtain ⟨fs, tc, was, gave⟩ := W
    dsimp only at r1 r2 r3 r4 ⊢
    rw [Array.toList_push] at r1
    have p1 : fs.toList.Perm (((PySem.strKind P w).hash z, Value.str z u) :: es.toList) := r1.trans (List.perm_append_singleton _ _)
    have p2 : (fs.toList.map txE).Perm (z :: es.toList.map txE) := p1.map txE
    have c1 : ∀ e ∈ fs.toList, OkE w e := fun e he => by
      rcases List.mem_cons.mp (p1.mem_iff.mp he) with q | q
      · subst q; exact ⟨z, u, rfl, rfl⟩
      · exact R.ok e q
    have c2 : (fs.toList.map txE).Nodup := p2.nodup_iff.mpr (List.nodup_cons.mpr ⟨hn, R.nd⟩)
    have c3 : ∀ y, (M y || decide (y = z)) = true ↔ y ∈ fs.toList.map txE := fun y => by
      rw [Bool.or_eq_true, decide_eq_true_eq, R.mem y, p2.mem_iff, List.mem_cons]
      exact Or.comm
    have c0 : fs.size = n + 1 := by rw [← Array.length_toList, p1.length_eq, List.length_cons, Array.length_toList, R.num]
    have c4 : fs.size < scanBound := c0 ▸ room
    have c7 : w.params.followText "set-order" = true ∨ tc.led = true := R.led.imp id fun q => r4.trans q
    have fin : ∀ h', Heap.SameBut a s.heap h' → TxR P w h' a (fun y => M y || decide (y = z)) fs.size → Q true { s with heap := h' } := fun h' sb r => by
      have q := k h' sb
      rw [hM] at q
      rw [c0] at r
      exact q r
    refine wpAny_bind (hgw _ ?_)
    split
    · refine wpAny_bind ?_
      rw [hashByValue_scannable 8 y2]
      refine wpAny_pure ?_
      refine tx_store ?_ R.at_ R.ex R.dat c1 c2 c3 c4 ?_ ?_ ?_ fun h' sb r => by dsimp only; exact wpAny_pure (fin h' sb r)
      · intro b s₁ Q' q
        cases b
        · exact wpAny_pure q
        · exact wpAny_rule q
      · first | (split <;> first | exact r2 | exact SetTable.fits_plain_off r2) | exact r2
      · first | (split <;> exact r3) | exact r3
      · first | (split <;> exact c7) | exact c7
    · refine wpAny_bind (wpAny_pure ?_)
      simp only [↓reduceIte]
      refine tx_store ?_ R.at_ R.ex R.dat c1 c2 c3 c4 r2 r3 c7 fun h' sb r => by dsimp only; exact wpAny_pure (fin h' sb r)
      intro b s₁ Q' q
      cases b
      · exact wpAny_pure q
      · exact wpAny_rule q
end
end PW

namespace PW
open PySem PySem.Spec PyProof.Rows L2
section
variable {prog : Program} {w : World} {A : Around} {E : Value → Shared → Prop}
theorem tx_loop {I : Addr} {fp wr : List Addr} {G : Array GenState → Array GenState → Prop} {n : Nat} {Pv : Nat → Value → Prop} {St : Nat → Shared → Prop} {R : Result → Shared → Prop}
    (W : WalksS prog w A.in1 I fp wr G n Pv St) (S : Addr) (hSf : S ∉ fp) (zs : List Str) (hsz : zs.length = n) (hn : n ≤ 100) (hval : ∀ i v, Pv i v → ∃ t, v = .str (zs.getD i Str.empty) t) (i : Nat) (s : Shared) (hi : i ≤ n) (hst : St i s)
    (hS : ∃ c, c ≤ i ∧ TxR prog w s.heap S (fun z => decide (z ∈ zs.take i)) c) (hR : ∀ s' c, Moved (S :: wr) G s s' → c ≤ n → TxR prog w s'.heap S (fun z => decide (z ∈ zs)) c → R (.ok (.ret .none)) s') :
    codeAny (model prog w) A (.builtin "set.update.loop" ⟨[.ref S, .ref I], []⟩) R s := by
  have keepS : S ∉ wr := fun q => hSf (W.sub _ q)
  have wide : ∀ b ∈ wr, b ∈ S :: wr := fun b q => .tail _ q
  generalize hk : n - i = k
  induction k generalizing i s with
  | zero =>
    obtain rfl : i = n := by omega
    obtain ⟨c, hc, hS⟩ := hS
    refine codeAny_builtin PyProof.Rows.F.entry_set_update_loop ?_
    rw [Around.under_plainId PyProof.Rows.F.plain_set_update_loop _]
    refine wpAny_bind (m := pyNext (.ref I)) (W.done s _ _ hst fun s' hm => ?_)
    have hS' := hS.at (h' := s'.heap) fun o e => hm.heap S o keepS e
    rw [List.take_of_length_le (by omega)] at hS'
    exact wpAny_pure (hR s' c (hm.mono wide) hc hS')
  | succ k ih =>
    have lt : i < n := by omega
    obtain ⟨c, hc, hS⟩ := hS
    refine codeAny_builtin PyProof.Rows.F.entry_set_update_loop ?_
    rw [Around.under_plainId PyProof.Rows.F.plain_set_update_loop _]
    refine wpAny_bind (m := pyNext (.ref I)) (W.item i s _ _ lt hst fun v s' hP hst' hm => ?_)
    obtain ⟨t, rfl⟩ := hval i v hP
    have hS' := hS.at (h' := s'.heap) fun o e => hm.heap S o keepS e
    refine wpAny_bind (m := holding [Value.str (zs.getD i Str.empty) t] (setAdd S (.str (zs.getD i Str.empty) t))) (wpAny_holding ?_)
    unfold setAdd
    refine wpAny_holding (wpAny_bind ((PySem.strKind prog w).pyHash (k := zs.getD i Str.empty) (strKind_is _ _ _ _) ?_))
    refine tx_add (s := { s' with toks := s'.toks + 1 }) hS' (by unfold scanBound; omega) fun h' sb new => ?_
    have lx : i < zs.length := by omega
    have hz : zs.getD i Str.empty = zs[i] := by rw [List.getD_eq_getElem?_getD, List.getElem?_eq_getElem lx]; rfl
    have new' := new.congr (M' := fun z => decide (z ∈ zs.take (i + 1))) fun z => by
      have e : zs.take (i + 1) = zs.take i ++ [zs[i]] := by rw [List.take_add_one, List.getElem?_eq_getElem lx]; rfl
      rw [e, hz]
      simp only [List.mem_append, List.mem_singleton, Bool.decide_or]
    have hc' : (if decide (zs.getD i Str.empty ∈ zs.take i) = true then c else c + 1) ≤ i + 1 := by split <;> omega
    refine wpAny_pure ⟨plainId_quiet PyProof.Rows.F.plain_set_update_loop _, ?_⟩
    refine ih (i + 1) _ lt (W.frame _ s' _ _ hst' (Nat.le_succ _) fun b hb o e => ?_) ⟨_, hc', new'⟩ (fun s'' c2 hm2 hc2 hS2 => ?_) (by omega)
    · exact (sb.2 b fun q => hSf (q ▸ hb)).trans e
    · refine hR s'' c2 (Moved.trans W.gtrans ((hm.mono wide).then_heap (Nat.le_succ _) fun b o hb e => ?_) hm2) hc2 hS2
      exact (sb.2 b fun q => hb (by rw [q]; exact List.mem_cons_self)).trans e
theorem tx_fresh {h : Heap} {a : Addr} {zs : List Str} (h0 : h.get? a = some (newSt (!w.params.followText "set-order"))) : TxR prog w h a (fun z => decide (z ∈ zs.take 0)) 0 := by
  refine ⟨_, #[], 0, _, ⟨h0, ⟨rfl, rfl, rfl⟩, rfl, fun e he => ?_, List.nodup_nil, fun z => ?_, by decide, rfl, rfl, List.Pairwise.nil, ?_⟩⟩
  · simp at he
  · simp
  · show _ ∨ (!w.params.followText "set-order") = true
    cases w.params.followText "set-order"
    · exact .inr rfl
    · exact .inl rfl
/-- sorted of such a set: its members, gathered and sorted -/
theorem tx_sorted {s : Shared} {a : Addr} {M : Str → Bool} {n : Nat} {Q : Value → Shared → Prop} (R : TxR prog w s.heap a M n) (hh : A.handled = none) (h64 : n < 64)
    (k : ∀ s' p (out : Array Value) (c : Nat) (ys : List Str), (∀ b o, s.heap.get? b = some o → s'.heap.get? b = some o) → s'.gens = s.gens → s'.os = s.os → s.heap.objs.size ≤ p →
      s'.heap.get? p = some (seqObj "list" out c) → StrsAre out.toList ys → ys.Nodup → sortedS ys = true → (∀ z, z ∈ ys ↔ M z = true) → Q (.ref p) s') : wpAny (model prog w) A (call (.builtin "sorted") [.ref a]) Q E s := by
  obtain ⟨ob, es, ep, tb, R⟩ := R
  refine Calls.call_function_entry PyProof.Rows.kind_sorted PyProof.Rows.plain_sorted PyProof.Rows.entry_sorted (PyProof.Rows.args_sorted1 _) ?_
  unfold Builtin.«sorted»
  refine wpAny_bind (m := checkCount "sorted" 1 1 _) (wpAny_pure ?_)
  refine wpAny_bind (collect_set (A := A.in1) hh ⟨ob, R.at_, R.ex.1, R.dat⟩ R.fit R.few R.ris R.led fun s1 vs k1 hz g1 o1 pm => ?_)
  have hvl : vs.length = n := by rw [pm.length_eq, List.length_map, Array.length_toList]; exact R.num
  have allS : ∀ v ∈ vs, ∃ x u, v = Value.str x u := fun v hv => by
    obtain ⟨e, he, q⟩ := List.mem_map.mp (pm.mem_iff.mp hv)
    obtain ⟨x, u, e1, _⟩ := R.ok e he
    exact ⟨x, u, by rw [← q, e1]⟩
  have hI : StrsAre vs (vs.map fun v => match v with | .str x _ => x | _ => Str.empty) := by
    clear pm hvl
    induction vs with
    | nil => exact .nil
    | cons v vs ih =>
      obtain ⟨x, u, rfl⟩ := allS v List.mem_cons_self
      exact .cons x u (ih fun y hy => allS y (List.mem_cons_of_mem _ hy))
  have pk : (vs.map fun v => match v with | .str x _ => x | _ => Str.empty).Perm (es.toList.map txE) := by
    have q := pm.map fun v => match v with | .str x _ => x | _ => Str.empty
    rw [List.map_map] at q
    exact q
  refine wpAny_bind (wpAny_newList ?_ (by rw [hvl, sizeLine_eq]; omega))
  have hoL : (s1.heap.push (seqObj "list" vs.toArray 0)).get? s1.heap.objs.size = some (seqObj "list" vs.toArray 0) := Heap.get?_push_size _ rfl
  refine wpAny_bind (wpAny_holding (wpAny_call_entry PyProof.Rows.slot_list_sort ⟨_, hoL, rfl⟩ PyProof.Rows.entry_list_sort
    (list_sort_treeK strKind_oneLt (s := { s1 with heap := s1.heap.push (seqObj "list" vs.toArray 0) }) hoL hI.keysOf (fun v₁ v₂ rest e => keyKind_strs (by rw [← e]; exact hI)) (by rw [hvl]; exact h64) fun st' hp hs => ⟨_, rfl, ?_⟩)
    (PyProof.Rows.args_list_sort _)))
  obtain ⟨ys, y1, y2, y3⟩ := sorted_out_str hI hp hs
  obtain ⟨c, hc⟩ := PyProof.Rows.sortedHeap_at (vs := vs) (out := (arrOf st').map (·.2)) hoL
  have pn : ys.Perm (es.toList.map txE) := y2.trans pk
  refine wpAny_pure ⟨_, rfl, k _ s1.heap.objs.size _ c ys (fun b u e => ?_) g1 o1 hz hc y1 (pn.nodup_iff.mpr R.nd) y3 fun z => by rw [pn.mem_iff, ← R.mem z]⟩
  have q := k1 b u e
  have hlt := Heap.lt_size q
  show (sortedHeap (s1.heap.push (seqObj "list" vs.toArray 0)) s1.heap.objs.size vs _).get? b = some u
  rw [PyProof.Rows.sortedHeap_old (Nat.ne_of_lt hlt) (by rw [size_push']; exact Nat.lt_succ_of_lt hlt)]
  exact Heap.get?_push_of_some _ q
end
end PW

namespace PW
open PySem PySem.Spec PyProof.Rows L2
theorem call_set_tpX {prog : Program} {w : World} {A : Around} {E : Value → Shared → Prop} {s : Shared} {l : Addr} {items : Array Value} (zs : List Str) {Q : Value → Shared → Prop} (hh : A.handled = none) (hl : s.heap.IsTuple l items) (hi : StrsAre items.toList zs) (hn : zs.length ≤ 100)
    (h : ∀ (h' : Heap) (tk c : Nat), TxR prog w h' s.heap.objs.size (fun z => decide (z ∈ zs)) c → c ≤ zs.length → (∀ b o, b < s.heap.objs.size → s.heap.get? b = some o → h'.get? b = some o) → Q (.ref s.heap.objs.size) { s with heap := h', toks := tk }) : wpAny (model prog w) A (call (.type "set") [.ref l]) Q E s := by
  have f0 := PySem.F.called_set.mro
  obtain ⟨c, tl, hmro⟩ := f0
  have f1 := PySem.F.called_set.made
  have f2 := PySem.F.called_set.sub
  have f3 := PySem.F.called_set.notType
  have f4 := PySem.F.called_set.canCreate
  have f5 := PySem.F.typeCall_set_1 (.ref l)
  refine wpAny_call (codeAny_of_tree (show wpAny _ _ (callAny (.type "set") _) _ _ _ from ?_))
  refine wpAny_pure ⟨Code.quiet_builtin _ (by decide +kernel), codeAny_builtin PySem.F.entry_type_call ?_⟩
  rw [Around.under_plain (weight_type_call_type "set" [.ref l] []) rfl]
  repeat (any_goals (first | assumption | wp_step))
  refine codeAny_mono (code_set_led1 (.ref l) (E := E) (Q₁ := fun ob s₁ => ob = .ref s.heap.objs.size ∧ s₁ = { s with heap := s.heap.push (newSt (!w.params.followText "set-order")) }) ⟨rfl, rfl⟩) fun r s₁ hr => ?_
  obtain ⟨ob, rfl, rfl, rfl⟩ | q : (∃ ob, r = .ok (.ret ob) ∧ ob = .ref s.heap.objs.size ∧ s₁ = { s with heap := s.heap.push (newSt (!w.params.followText "set-order")) }) ∨ ∃ e, r = .error e ∧ E e s₁ := by
    cases r with
    | error e => exact .inr ⟨e, rfl, hr⟩
    | ok fl =>
      cases fl with
      | ret ob => exact .inl ⟨ob, rfl, hr⟩
      | _ => exact hr.elim
  case inr =>
    obtain ⟨e, rfl, he⟩ := q
    exact he
  generalize hled : (!w.params.followText "set-order") = led
  have at0 : (s.heap.push (newSt led)).get? s.heap.objs.size = some (newSt led) := Heap.get?_push_size _ rfl
  have hT : Shared.TypeIs { s with heap := s.heap.push (newSt led) } (.ref s.heap.objs.size) "set" := ⟨_, at0, rfl⟩
  have g1 := PySem.F.called_set.init.lookup
  have g2 := PySem.F.called_set.init.bind (.ref s.heap.objs.size)
  repeat (any_goals (first | assumption | wp_step))
  refine codeAny_mono (codeAny_call_builtin (R := wants (fun r s₂ => r = .none ∧ ∃ h' tk c, s₂ = { s with heap := h', toks := tk } ∧ TxR prog w h' s.heap.objs.size (fun z => decide (z ∈ zs)) c ∧ c ≤ zs.length ∧ (∀ b o, b < s.heap.objs.size → s.heap.get? b = some o → h'.get? b = some o)) E) PySem.F.called_set.init.plain PySem.F.entry_set_init (check_set_init_1 hT ?_)) fun r₂ s₂ hr₂ => ?_
  · obtain ⟨⟨oc, od, odt, osl⟩, hol, hcl, nl, hdl⟩ := hl
    simp only at hcl hdl
    subst hcl hdl
    have hol' : (s.heap.push (newSt led)).get? l = some { cls := .type "tuple", dict := od, data := .seq items nl, slots := osl } := Heap.get?_push_of_some _ hol
    have z1 := PySem.F.sub_tuple_set
    have z2 := PySem.F.sub_tuple_frozenset
    have z3 : (Value.type "tuple" == Value.type "dict") = false := by decide
    have hl1 : (s.heap.push (newSt led)).IsTuple l items := ⟨_, hol', rfl, nl, rfl⟩
    unfold Builtin.«set.__init__» noKeywords Builtin.Frozenset.updateFrom
    generalize hPI : pyIter = PI
    wp_walk
    subst hPI
    refine wpAny_pyIter_tuple hl1 (wpAny_bind (wpAny_runValue ?_))
    have lS : l < s.heap.objs.size := Heap.lt_size hol
    have sz1 : (s.heap.push (newSt led)).objs.size = s.heap.objs.size + 1 := Heap.size_push ..
    have hsz : zs.length = items.size := by rw [← StrsAre.len_eq hi, Array.length_toList]
    have ne1 : l ≠ (s.heap.push (newSt led)).objs.size := sz1 ▸ Nat.ne_of_lt (Nat.lt_succ_of_lt lS)
    refine tx_loop ((Walks.tuple (show A.in1.in1.in1.handled = none by simp [hh]) _ l ne1 items).toS) s.heap.objs.size ?_ zs hsz (by omega) (fun i v hv => SS.strs_at hi i v (by rw [Array.getElem?_toList]; exact hv)) 0 _ (Nat.zero_le _)
      ⟨⟨_, Heap.get?_push_size _ rfl, rfl, rfl⟩, hl1.push _⟩ ?_ ?_
    · rw [sz1]
      simp only [List.mem_cons, List.not_mem_nil, or_false, not_or]
      exact ⟨Nat.ne_of_lt (Nat.lt_succ_self _), Nat.ne_of_gt lS⟩
    · have at1 : ((s.heap.push (newSt led)).push { cls := .type "tuple_iterator", data := .fields #[.ref l, .int 0 0] }).get? s.heap.objs.size = some (newSt led) := Heap.get?_push_of_some _ at0
      exact ⟨0, Nat.le_refl 0, tx_fresh (by rw [at1, ← hled])⟩
    · intro s' c' hm hc' hS'
      obtain ⟨h', g', d', tk', os'⟩ := s'
      obtain rfl : g' = s.gens := hm.gens
      obtain rfl : d' = s.drawn := hm.drawn
      obtain rfl : os' = s.os := hm.os
      refine wpAny_pure (show wpAny _ _ (ret Value.none) _ _ _ from wpAny_pure ⟨rfl, h', tk', c', rfl, hS', by rw [hsz]; exact hc', fun b o hb e => ?_⟩)
      refine hm.heap b o ?_ (Heap.get?_push_of_some _ (Heap.get?_push_of_some _ e))
      simp only [List.mem_cons, List.not_mem_nil, or_false, not_or]
      exact ⟨Nat.ne_of_lt hb, sz1 ▸ Nat.ne_of_lt (Nat.lt_succ_of_lt hb)⟩
  · cases r₂ with
    | error e => exact hr₂
    | ok fl =>
      cases fl with
      | ret r =>
        obtain ⟨rfl, h', tk, c', rfl, hS', hc', hk'⟩ := hr₂
        repeat (any_goals (first | assumption | wp_step))
        exact h _ _ _ hS' hc' hk'
      | _ => exact hr₂.elim
end PW

/-! U32: sorted(set(xs)) of texts, over pure data -/
namespace PW
open PySem PySem.Spec PyProof.Rows L2
def TxO (P : Program) (w : World) (a : Addr) (M : Str → Bool) (n : Nat) : HO := .ext fun h => TxR P w h a M n
theorem txO_new {w : World} {P : Program} {H : Hp} {h : Heap} {a : Addr} {M : Str → Bool} {n : Nat} (R : TxR P w h a M n) : ObjOk P w H h a (TxO P w a M n) :=
  ⟨R, by obtain ⟨o, _, _, _, r⟩ := id R; exact ⟨o, r.at_⟩, fun h1 h2 p k => TxR.at p k⟩
theorem txO_get {X : Cx} {pins : List (Addr × Obj)} {σ : L2.St} {H : Hp} {s : Shared} {a : Addr} {M : Str → Bool} {n : Nat} (I : Inv X pins σ H s) (ha : H a = some (TxO X.prog X.w a M n)) : TxR X.prog X.w s.heap a M n := (I.hok a _ ha).1
/-- set(xs), xs a tuple of texts -/
def rSetTx (K : PySem.W.Frag) (P : Program) (w : World) : List L2.V → Hp → VK → Prop := fun xs H Q => ∃ (l : Addr) (zs : List Str), xs = [.ref l] ∧ SqT K H l (zs.map L2.V.str) ∧ zs.length ≤ 100 ∧ ∀ p c, H p = none → c ≤ zs.length → Q (.ref p) (upd H p (TxO P w p (fun z => decide (z ∈ zs)) c))
theorem cr_setTx {X : Cx} (hc0 : X.calm = true) : CallR X (.type "set") (rSetTx X.K X.prog X.w) := by
  intro pins s σ H xs us Q I r h
  obtain ⟨l, zs, rfl, hq, hn, q⟩ := h
  rw [Vals.ref1 r]
  have fin : ∀ (h' : Heap) (tk c : Nat), TxR X.prog X.w h' s.heap.objs.size (fun z => decide (z ∈ zs)) c → c ≤ zs.length → (∀ b o, b < s.heap.objs.size → s.heap.get? b = some o → h'.get? b = some o) → EP X pins σ Q (.ref s.heap.objs.size) { s with heap := h', toks := tk } := fun h' tk c hS hc hk =>
    ⟨.ref _, _, I.laid (t' := tk) (fun b u e => hk b u (Heap.lt_size e) e) (Nat.le_refl _) (txO_new hS), rfl, q _ c (I.hok.fresh (Nat.le_refl _)) hc⟩
  obtain ⟨its, rv, p', hz⟩ := I.tuple hq
  exact call_set_tpX zs (I.ok.hd hc0) p' (by simpa using strsAre_of rv) hn fin
def rSortTx (P : Program) (w : World) : List L2.V → Hp → VK → Prop := fun vs H Q => ∃ (a : Addr) (M : Str → Bool) (n : Nat), vs = [.ref a] ∧ H a = some (TxO P w a M n) ∧ n < 64 ∧ ∀ ys p, ys.Nodup → sortedS ys = true → (∀ z, z ∈ ys ↔ M z = true) → ys.length ≤ sizeLine → H p = none → Q (.ref p) (upd H p (.lst (ys.map L2.V.str)))
theorem nd_lenS : ∀ {xs us : List Str}, us.Nodup → (∀ x ∈ us, x ∈ xs) → us.length ≤ xs.length := by
  intro xs
  induction xs with
  | nil =>
    intro us _ h
    cases us with
    | nil => exact Nat.le_refl _
    | cons u us => exact (nomatch (h u List.mem_cons_self))
  | cons x xs ih =>
    intro us nd h
    have h1 := ih (us := us.erase x) (nd.erase x) fun y hy => by
      have hy' := (List.Nodup.mem_erase_iff nd).mp hy
      exact (List.mem_cons.mp (h y hy'.2)).resolve_left hy'.1
    have h2 : us.length ≤ (us.erase x).length + 1 := by
      rw [List.length_erase]
      split <;> omega
    rw [List.length_cons]
    omega
theorem cr_sortTx {X : Cx} (hc0 : X.calm = true) : CallR X (.builtin "sorted") (rSortTx X.prog X.w) := by
  intro pins s σ H vs us Q I r h
  obtain ⟨a, M, n, rfl, ha, h64, q⟩ := h
  have R := txO_get I ha
  rw [Vals.ref1 r]
  have hlen : ∀ ys : List Str, ys.Nodup → (∀ z, z ∈ ys ↔ M z = true) → ys.length ≤ sizeLine := fun ys nd hm => by
    obtain ⟨o, es, ep, tb, R⟩ := R
    have := nd_lenS (xs := es.toList.map txE) nd fun z hz => (R.mem z).mp ((hm z).mp hz)
    rw [List.length_map] at this
    have h2 : es.toList.length = n := by rw [Array.length_toList]; exact R.num
    have h3 : ys.length ≤ n := h2 ▸ this
    have hs : sizeLine = 16777216 := sizeLine_eq
    omega
  refine tx_sorted R (I.ok.hd hc0) h64 fun s' p out c ys k g o hp hg hi nd hs hm => ?_
  have hn : H p = none := I.hok.fresh hp
  have hl := hlen ys nd hm
  have J : Inv X pins σ (upd H p (.lst (ys.map L2.V.str))) { s with heap := s'.heap, gens := s'.gens, drawn := s'.drawn, toks := s'.toks } :=
    I.call (ch := []) (Un.laid k hp hn) (I.hok.laid k hp ⟨by rw [List.length_map]; exact hl, out.toList, c, vals_of_strs hi, hg⟩) (by rw [g]; exact I.bare) (fun _ z => nomatch z)
  have e : s' = { s with heap := s'.heap, gens := s'.gens, drawn := s'.drawn, toks := s'.toks } := by
    obtain ⟨h1, h2, h3, h4, h5⟩ := s'
    simp only at o
    subst o
    rfl
  rw [e]
  exact ⟨.ref p, _, J, rfl, q ys p nd hs hm hl hn⟩
section
variable {X : Cx} {R : Fr} {a : Expr} {f : PTE} {pos p pos2 p2 : Pos}
/-- sorted(set(xs)) of texts -/
def qSortTx (f : PTE) : PTE := fun Γ O Q => f Γ O fun x O1 => match rd O1 x with
  | some (.tuple ds) => ∃ zs : List Str, ds = zs.map PyData.str ∧ zs.length < 60 ∧ ∀ ys : List Str, ys.Nodup → sortedS ys = true → (∀ z, z ∈ ys ↔ z ∈ zs) → Q (.d (.list (ys.map PyData.str))) O1
  | _ => False
theorem dq_strsL {K : PySem.W.Frag} {V : Hp} : ∀ {ws : List Str} {vs : List L2.V}, DqL K V vs (ws.map PyData.str) → vs = ws.map L2.V.str
  | [], _, h => by cases h; rfl
  | w :: ws, _, h => by
    cases h with
    | cons h1 h2 => cases h1; rw [dq_strsL h2]; rfl
theorem ew_sortTx (hc : X.calm = true) (hm : X.mg "sorted" = none) (hm2 : X.mg "set" = none) (ha : EW X R a f) (hg : Gl X "sorted" := by rfl) (hg2 : Gl X "set" := by rfl)
    (he : starEach [a] X.env = (false, eval a X.env) :: starEach [] X.env := by rfl) (hpl : (backTo pos2 (starEach [] X.env)).any (·.1) = false := by rfl)
    (he2 : starEach [Expr.Call (.Name "set" p2) [a] [] pos2] X.env = (false, eval (Expr.Call (.Name "set" p2) [a] [] pos2) X.env) :: starEach [] X.env := by rfl) (hpl2 : (backTo pos (starEach [] X.env)).any (·.1) = false := by rfl) :
    EW X R (.Call (.Name "sorted" p) [.Call (.Name "set" p2) [a] [] pos2] [] pos) (qSortTx f) := by
  intro S V H σ Γ Q r sl q
  refine wE_of (pe_callB (cr_sortTx hc) hg hm (by decide +kernel) (pa_cons (pe_callTy (cr_setTx hc) hg2 hm2 (by decide +kernel) (pa_cons wE_pe pa_nil he) (by decide) (by decide) he hpl) pa_nil he2) (by decide) (by decide) he2 hpl2) ?_
  refine wE_mono (ha S V H σ Γ _ r sl q) fun v H1 ⟨S1, V1, dv, r1, e1, d1, q1⟩ => ?_
  have fin : ∀ (l : Addr) (zs : List Str), v = .ref l → SqT X.K H1 l (zs.map L2.V.str) → zs.length < 60 → (∀ ys : List Str, ys.Nodup → sortedS ys = true → (∀ z, z ∈ ys ↔ z ∈ zs) → Q (.d (.list (ys.map PyData.str))) (obs S1)) → rSetTx X.K X.prog X.w [v] H1 fun v2 H2 => rSortTx X.prog X.w [v2] H2 (PostE X.K R S V Q) := fun l zs hv hq hn k => by
    subst hv
    refine ⟨l, zs, rfl, hq, by omega, fun p0 c hp0 hc0 => ?_⟩
    refine ⟨p0, _, c, rfl, upd_same, by omega, fun us p1 nd hs hm' _ hp1 => ?_⟩
    obtain ⟨r2, e2⟩ := r1.new (o := TxO X.prog X.w p0 (fun z => decide (z ∈ zs)) c) hp0
    obtain ⟨r3, e3⟩ := r2.new (o := .lst (us.map L2.V.str)) hp1
    exact PostE.ext ((e1.trans e2).trans e3) (.hd r3 (.lst upd_same (DqL.strs us)) (k us nd hs fun j => by rw [hm' j]; simp))
  dsimp only at q1
  split at q1
  · rename_i ds hx
    obtain ⟨zs, rfl, hn, k⟩ := q1
    obtain ⟨l, xs, rfl, hl, hd⟩ := rd_tup r1 d1 hx
    obtain rfl := dq_strsL hd
    exact fin l zs rfl (same_seqT r1.vh hl) hn k
  · exact q1.elim
end
end PW

/-! U33: sum of ints; (a, b, c)[::2] -/
namespace PW
open PySem PySem.Spec PyProof.Rows L2
def oSum : List DV → List Ob → QE → Prop := fun dvs O Q => match dvs with
  | [dv] => match rd O dv with
    | some (.list ds) => match intsOf ds with
      | some is => Q (.d (.int is.sum)) O
      | none => False
    | _ => False
  | _ => False
section
variable {X : Cx} {R : Fr}
theorem b_sum (hc : X.calm = true) : BW1 X R (.builtin "sum") oSum := by
  intro S V H vs dvs Q r d q
  unfold oSum at q
  split at q
  · cases d with
    | cons d1 d2 =>
      cases d2
      split at q
      · rename_i ds h
        split at q
        · rename_i is hi
          have he := intsOf_eq hi
          subst he
          obtain ⟨a, xs, rfl, hx, hd⟩ := rd_lst r d1 h
          have hxs := dqL_ints hd
          subst hxs
          exact ⟨_, cr_sum hc, a, is, rfl, SqL.of hx, .hd r (.int _) q⟩
        · exact q.elim
      · exact q.elim
  · exact q.elim
end
theorem applied_two {prog : Program} {w : World} {A : Around} {E : Value → Shared → Prop} {s : Shared} {sl : Addr} {vl vu vs : Value} {Q : Int × Int × Nat → Shared → Prop} (hs : s.heap.IsSliceOf sl vl vu vs) (pl : IsPart vl none) (pu : IsPart vu none) (pv : IsPart vs (some 2)) (h : Q (0, 2, 2) s) :
    wpAny (model prog w) A (Builtin.Slice.sliceApplied (.ref sl) (pure 3)) Q E s := by
  obtain ⟨os, hos, hcs, hds⟩ := id hs
  unfold Builtin.Slice.sliceApplied Builtin.Slice.sliceFields
  refine wpAny_bind (wpAny_bind (wpAny_field hos hds (x := vl) rfl (wpAny_bind (wpAny_field hos hds (x := vu) rfl (wpAny_bind (wpAny_field hos hds (x := vs) rfl (wpAny_pure ?_)))))))
  refine wpAny_bind (HT.slicePart_ pv ?_)
  show wpAny _ _ (if ((2 : Int) == 0) = true then _ else _) _ _ s
  rw [if_neg (by decide)]
  refine wpAny_bind (HT.slicePart_ pl (wpAny_bind (HT.slicePart_ pu (wpAny_bind (wpAny_pure (wpAny_pure h))))))
theorem item_two {prog : Program} {w : World} {A : Around} {E : Value → Shared → Prop} {s : Shared} {t sl : Addr} {x y z vl vu vs : Value} {Q : Value → Shared → Prop} (ht : IsTup s.heap t #[x, y, z]) (hs : s.heap.IsSliceOf sl vl vu vs) (pl : IsPart vl none) (pu : IsPart vu none) (pv : IsPart vs (some 2))
    (h : Q (.ref s.heap.objs.size) { s with heap := s.heap.push { cls := .type "tuple", data := .seq #[x, z] } }) : wpAny (model prog w) A (getItem (.ref t) (.ref sl)) Q E s := by
  obtain ⟨os, hos, hcs, hds⟩ := id hs
  have hTs : s.TypeIs (.ref sl) "slice" := ⟨os, hos, hcs⟩
  have hz : sizeOk (.seq #[x, z]) := (by show 2 ≤ sizeLine; decide)
  unfold getItem
  try with_reducible refine wpAny_holding ?_
  first | refine wpAny_bind (wpAny_pure ?_) | skip
  refine wpAny_bind (wpAny_sequenceKey ht.typeIs (by decide) ?_)
  refine wpAny_bind (wpAny_callSpecial?_slot (name := Str.ofString "__getitem__") ht.typeIs PyProof.Rows.slot_tuple_getitem (wpAny_call_entry PyProof.Rows.slot_tuple_getitem ht.typeIs PyProof.Rows.entry_tuple_getitem ?_ (PyProof.Rows.args_tuple_getitem _ _)))
  show wpAny _ _ (Builtin.Tuple.tupleItemsOf (.ref t) >>= _) _ _ s
  refine wpAny_bind (tupleItemsOf_ ht (wpAny_bind (wpAny_typeOf hTs ?_)))
  rw [if_pos (by decide)]
  refine wpAny_bind (applied_two hs pl pu pv ?_)
  show wpAny _ _ (if ((0 : Int) == 0 && (2 : Int) == 1 && 2 == 3) = true then _ else _) _ _ s
  rw [if_neg (by decide)]
  first
    | exact wpAny_bind (m := Builtin.Tuple.tupleExact _) (wpAny_newObj_type (wpAny_pure ⟨_, rfl, wpAny_pure h⟩) hz)
    | exact wpAny_bind (m := Builtin.Tuple.tupleExact _) (wpAny_newObj_type (wpAny_bind (wpAny_pure (wpAny_pure ⟨_, rfl, wpAny_pure h⟩))) hz)
    | exact wpAny_bind (wpAny_bind (m := Builtin.Tuple.tupleExact _) (wpAny_newObj_type (wpAny_pure (wpAny_pure ⟨_, rfl, wpAny_pure h⟩)) hz))
    | exact wpAny_bind (wpAny_bind (m := Builtin.Tuple.tupleExact _) (wpAny_newObj_type (wpAny_pure ⟨_, rfl, wpAny_pure h⟩) hz))
def tTwo (K : PySem.W.Frag) (te : TE) : TE := fun σ H Q => te σ H fun x H1 => ∃ a u v w, x = .ref a ∧ SqT K H1 a [u, v, w] ∧ ∀ p, H1 p = none → Q (.ref p) (upd H1 p (.tup [u, w]))
theorem pe_two {X : Cx} {e : Expr} {te : TE} {k : Nat} {p1 p3 pos : Pos} (he : PE X e te) : PE X (.Subscript e (.Slice none none (some (.Constant (.int 2) k p1)) p3) pos) (tTwo X.K te) := by
  refine ⟨fun pins s σ H Q I h => ?_⟩
  refine Subscript_ (thn (he.run pins s σ H _ I h) fun v s1 ⟨x, H1, I1, r1, q1⟩ => ?_)
  obtain ⟨a, u, v', w', ex, hx, q⟩ := q1
  subst ex
  cases r1
  have hst : PO X (some (.Constant (.int 2) k p1)) (tPart (tC (.int 2))) := po_some pe_int
  refine wpAny_Slice (thn (po_none.run pins s1 σ H1 (fun o H2 => o = none ∧ H2 = H1) I1 ⟨rfl, rfl⟩) fun vl s2 ⟨l, H2, I2, pl, el, e2⟩ => ?_)
  subst el e2
  refine thn (po_none.run pins s2 σ H2 (fun o H3 => o = none ∧ H3 = H2) I2 ⟨rfl, rfl⟩) fun vu s3 ⟨u, H3, I3, pu, eu, e3⟩ => ?_
  subst eu e3
  refine thn (hst.run pins s3 σ H3 (fun o H4 => o = some 2 ∧ H4 = H3) I3 ⟨2, rfl, rfl, rfl⟩) fun vs s4 ⟨o, H4, I4, ps, eo, e4⟩ => ?_
  subst eo e4
  have I5 : Inv X pins σ H4 { s4 with heap := s4.heap.push { cls := .type "slice", data := .fields #[vl, vu, vs] } } := I4.kept (t' := s4.toks) fun b ob q => Heap.get?_push_of_some _ q
  obtain ⟨its, r, ht, hz⟩ := I5.tuple hx
  obtain ⟨u1, u2, u3, rfl, r1, r3⟩ : ∃ u1 u2 u3, its = [u1, u2, u3] ∧ RelV _ u1 ∧ RelV w' u3 := by
    cases r with
    | cons p q => cases q with
      | cons p' q' => cases q' with
        | cons p'' q'' => cases q''; exact ⟨_, _, _, rfl, p, p''⟩
  show wpAny (model X.prog X.w) X.A (subscriptTail e (.Slice none none (some (.Constant (.int 2) k p1)) p3) (.ref a) (.ref s4.heap.objs.size)) (EP X pins σ Q) X.xe { s4 with heap := s4.heap.push { cls := .type "slice", data := .fields #[vl, vu, vs] } }
  refine tail_any (ops := [.ref a, .ref s4.heap.objs.size]) ht.typeIs (PyProof.Rows.slot_tuple_getitem.lookup) ?_ (by with_unfolding_all rfl)
  refine item_two ht (Heap.IsSliceOf.new _ vl vu vs) pl pu ps ?_
  refine ⟨.ref _, _, I5.laid (t' := s4.toks) (o := .tup [_, w']) (fun b ob q => Heap.get?_push_of_some _ q) (Nat.le_refl _) ?_, rfl, q _ (I5.hok.fresh (Nat.le_refl _))⟩
  exact ⟨by show 2 ≤ sizeLine; decide, _, .cons r1 (.cons r3 .nil), ⟨_, Heap.get?_push_size _ rfl, rfl, _, rfl⟩⟩
section
variable {X : Cx} {R : Fr} {e : Expr} {f : PTE}
/-- (a, b, c)[::2] -/
def qTwo (f : PTE) : PTE := fun Γ O Q => f Γ O fun dv O1 => match rd O1 dv with
  | some (.tuple [a, _, c]) => Q (.d (.tuple [a, c])) O1
  | _ => False
theorem ew_two {k : Nat} {p1 p3 pos : Pos} (ha : EW X R e f) : EW X R (.Subscript e (.Slice none none (some (.Constant (.int 2) k p1)) p3) pos) (qTwo f) := by
  intro S V H σ Γ Q r sl q
  refine wE_of (pe_two wE_pe) (wE_mono (ha S V H σ Γ _ r sl q) fun v H1 ⟨S1, V1, dv, r1, e1, d1, q1⟩ => ?_)
  dsimp only at q1
  split at q1
  · rename_i a b c h
    obtain ⟨p, vs, rfl, hp, hd⟩ := rd_tup r1 d1 h
    cases hd with
    | cons g1 t1 => cases t1 with
      | cons g2 t2 => cases t2 with
        | cons g3 t3 =>
          cases t3
          refine ⟨p, _, _, _, rfl, same_seqT r1.vh hp, fun l hl => ?_⟩
          exact PostE.ext e1 (.new r1 hl (.tup (SqT.of upd_same) (.cons (g1.mono (r1.new hl).2.v) (.cons (g3.mono (r1.new hl).2.v) .nil))) q1)
  · exact q1.elim
end
end PW

/-! U39: max of a list of ints; an empty dict that stays so; lists that hold more than data -/
namespace PW
open PySem PySem.Spec PyProof.Rows L2
def maxI : List Int → Int
  | [] => 0
  | [a] => a
  | a :: b :: r => if a < maxI (b :: r) then maxI (b :: r) else a
theorem maxI_mem : ∀ {is : List Int}, is ≠ [] → maxI is ∈ is
  | [], h => (h rfl).elim
  | [a], _ => List.mem_singleton.mpr rfl
  | a :: b :: r, _ => by
    have ih := maxI_mem (is := b :: r) (by simp)
    show (if a < maxI (b :: r) then maxI (b :: r) else a) ∈ _
    split
    · exact List.mem_cons_of_mem _ ih
    · exact List.mem_cons_self
theorem maxI_le : ∀ {is : List Int}, ∀ y ∈ is, y ≤ maxI is
  | [], y, h => by cases h
  | [a], y, h => by rw [List.mem_singleton.mp h]; exact Int.le_refl _
  | a :: b :: r, y, h => by
    have ih := maxI_le (is := b :: r)
    show y ≤ (if a < maxI (b :: r) then maxI (b :: r) else a)
    rcases List.mem_cons.mp h with rfl | h
    · split <;> omega
    · have := ih y h
      split <;> omega
def oMax1 : List DV → List Ob → QE → Prop := fun dvs O Q => match dvs with
  | [dv] => match rd O dv with
    | some (.list ds) => match intsOf ds with
      | some is => is ≠ [] ∧ Q (.d (.int (maxI is))) O
      | none => False
    | _ => False
  | _ => False
section
variable {X : Cx} {R : Fr}
theorem b_max1 (hc : X.calm = true) : BW1 X R (.builtin "max") oMax1 := by
  intro S V H vs dvs Q r d q
  unfold oMax1 at q
  split at q
  · cases d with
    | cons d1 d2 =>
      cases d2
      split at q
      · rename_i ds h
        split at q
        · rename_i is hi
          have he := intsOf_eq hi
          subst he
          obtain ⟨a, xs, rfl, hx, hd⟩ := rd_lst r d1 h
          have hxs := dqL_ints hd
          subst hxs
          obtain ⟨hne, q⟩ := q
          refine ⟨_, cr_max hc, a, is, rfl, SqL.of hx, List.length_pos_iff.mpr hne, fun m hm hle => ?_⟩
          have : m = maxI is := Int.le_antisymm (maxI_le m hm) (hle _ (maxI_mem hne))
          rw [this]
          exact .hd r (.int _) q
        · exact q.elim
      · exact q.elim
  · exact q.elim
end
/-- {}: it stays so -/
def qDict0 (K : PySem.W.Frag) : PTE := fun _ O Q => Q (.x (dKψ K [])) O
/-- a list that holds more than data -/
def lstψ (K : PySem.W.Frag) (its : List DV) : Hp → L2.V → Prop := fun V v => ∃ a vs, v = .ref a ∧ V a = some (.lst vs) ∧ Paired (DVat K [] V) vs its
def noO : DV → Bool
  | .o _ => false
  | _ => true
def qLstX (K : PySem.W.Frag) (fs : PTA) : PTE := fun Γ O Q => fs Γ O fun dvs O1 => dvs.all noO = true ∧ small dvs.length = true ∧ Q (.x (lstψ K dvs)) O1
def qLenL (K : PySem.W.Frag) (f : PTE) : PTE := fun Γ O Q => f Γ O fun dv O1 => ∃ its, dv = .x (lstψ K its) ∧ Q (.d (.int (its.length : Nat))) O1
def qIxL (K : PySem.W.Frag) (f g : PTE) : PTE := fun Γ O Q => f Γ O fun x O1 => g Γ O1 fun y O2 => ∃ its k z, x = .x (lstψ K its) ∧ y = .d (.int k) ∧ atI its k = some z ∧ noO z = true ∧ Q z O2
section
variable {K : PySem.W.Frag} {V V' : Hp} {v : L2.V}
theorem lst_mono {its : List DV} (s : Same V V') (h : lstψ K its V v) : lstψ K its V' v := by
  obtain ⟨a, vs, e, h1, h2⟩ := h
  exact ⟨a, vs, e, s _ _ h1, Paired.mapP h2 fun g p z => z.mono ⟨s, fun i c q => ⟨c, q, rfl⟩⟩⟩
theorem noO_ne {d : DV} (h : noO d = true) : ∀ i, d ≠ .o i := fun i e => by rw [e] at h; cases h
theorem paired_any {S S' : List Cell} : ∀ {vs : List L2.V} {dvs : List DV}, dvs.all noO = true → Paired (DVat K S V) vs dvs → Paired (DVat K S' V) vs dvs
  | _, _, _, .nil => .nil
  | _, _, h, .cons h1 h2 => by
    rw [List.all_cons, Bool.and_eq_true] at h
    exact .cons (DVat.any (noO_ne h.1) h1) (paired_any h.2 h2)
theorem lst_get {vs : List L2.V} {its : List DV} (h : Paired (DVat K [] V) vs its) : ∀ {i : Nat} {d : DV}, its[i]? = some d → ∃ v, vs[i]? = some v ∧ DVat K [] V v d := by
  induction h with
  | nil => intro i d e; simp at e
  | cons h t ih =>
    intro i d e
    cases i with
    | zero => simp at e; subst e; exact ⟨_, rfl, h⟩
    | succ i =>
      obtain ⟨w, e1, e2⟩ := ih (i := i) (by simpa using e)
      exact ⟨w, by simpa using e1, e2⟩
end
section
variable {X : Cx} {R : Fr} {a b : Expr} {es : List Expr} {f g : PTE} {fs : PTA} {pos p : Pos}
theorem ew_dict0 {K : PySem.W.Frag} (hK : X.K = K) : EW X R (.Dict [] [] pos) (qDict0 K) := by
  subst hK
  intro S V H σ Γ Q r sl q
  refine wE_of pe_dnewK fun p hp => ?_
  obtain ⟨r2, e2⟩ := r.new (o := .dK []) hp
  exact PostE.ext e2 (.here r2 (dv := .x (dKψ X.K [])) (fun V' s => ⟨p, [], rfl, s _ _ upd_same, rfl, .nil⟩) q)
theorem ew_lstX {K : PySem.W.Frag} (hK : X.K = K) (ha : AW X R es fs) : EW X R (.List es pos) (qLstX K fs) := by
  subst hK
  intro S V H σ Γ Q r sl q
  refine wE_of (pe_lst wA_pa) (wA_mono (ha S V H σ Γ _ r sl q) fun vs H1 ⟨S1, V1, dvs, r1, e1, d1, hn, hsm, q1⟩ => ?_)
  refine ⟨small_line hsm (dvs_len d1), fun p hp => ?_⟩
  obtain ⟨r2, e2⟩ := r1.new (o := .lst vs) hp
  exact PostE.ext (e1.trans e2) (.here r2 (dv := .x (lstψ X.K dvs)) (fun V' s => lst_mono s ⟨p, vs, rfl, upd_same, paired_any hn (DVs.mono e2 d1)⟩) q1)
theorem ew_lenL {K : PySem.W.Frag} (hK : X.K = K) (hm : X.mg "len" = none) (ha : EW X R a f) (hg : Gl X "len" := by rfl) (he : starEach [a] X.env = (false, eval a X.env) :: starEach [] X.env := by rfl) (hpl : (backTo pos (starEach [] X.env)).any (·.1) = false := by rfl) : EW X R (.Call (.Name "len" p) [a] [] pos) (qLenL K f) := by
  subst hK
  intro S V H σ Γ Q r sl q
  refine wE_of (pe_callB call_len_seq hg hm PySem.boot_len (pa_cons wE_pe pa_nil he) (by decide) (by decide) he hpl) (wE_mono (ha S V H σ Γ _ r sl q) fun v H1 ⟨S1, V1, dv, r1, e1, d1, its, h, q1⟩ => ?_)
  subst h
  obtain ⟨a, vs, rfl, h1, h2⟩ := d1 V1 (Same.refl _)
  exact ⟨a, vs, rfl, .inl (SqL.of (r1.vh _ _ h1)), by rw [Paired.length h2]; exact PostE.ext e1 (.hd r1 (.int _) q1)⟩
theorem ew_ixL {K : PySem.W.Frag} (hK : X.K = K) (ha : EW X R a f) (hb : EW X R b g) (hs : PlainIx b := by exact fun _ _ => rfl) : EW X R (.Subscript a b pos) (qIxL K f g) := by
  subst hK
  intro S V H σ Γ Q r sl q
  refine wE_of (pe_ix ix_list wE_pe wE_pe hs) (wE_mono (ha S V H σ Γ _ r sl q) fun v H1 ⟨S1, V1, da, r1, e1, d1, q1⟩ => ?_)
  refine wE_mono (hb S1 V1 H1 σ Γ _ r1 (sl.mono e1) q1) fun u H2 ⟨S2, V2, db, r2, e2, d2, q2⟩ => ?_
  obtain ⟨its, k, z, rfl, rfl, h, hz, q3⟩ := q2
  cases d2
  obtain ⟨a, vs, rfl, h1, h2⟩ := (d1.mono e2) V2 (Same.refl _)
  unfold atI at h
  cases y : ixN its.length k with
  | none => rw [y] at h; cases h
  | some j =>
    rw [y] at h
    obtain ⟨w, hw, dw⟩ := lst_get h2 (i := j) h
    refine ⟨a, vs, k, w, rfl, rfl, SqL.of (r2.vh _ _ h1), ?_, PostE.ext (e1.trans e2) (.here r2 (dv := z) (DVat.any (noO_ne hz) dw) q3)⟩
    unfold atI
    rw [Paired.length h2, y]
    exact hw
/-- isinstance(x, (T, ..)), x a dict that does not change -/
def qIsiD (K : PySem.W.Frag) (Ts : List Ty) (f : PTE) : PTE := fun Γ O Q => f Γ O fun dv O1 => ∃ kvs, dv = .x (dKψ K kvs) ∧ Q (.d (.bool (Ts.any fun T => isB T (.dict [])))) O1
theorem ew_isiD {K : PySem.W.Frag} (hK : X.K = K) {Ts : List Ty} {x1} {pt : Pos} (ha : EW X R a f) (hT : TysA X es Ts) (hm : X.mg "isinstance" = none) (hlen : Ts.length ≤ 10 := by decide) (hg : Gl X "isinstance" := by rfl)
    (h1 : starEach [a, .Tuple es x1 pt] X.env = (false, eval a X.env) :: starEach [.Tuple es x1 pt] X.env := by rfl) (hpl : (backTo pos (starEach [.Tuple es x1 pt] X.env)).any (·.1) = false := by rfl) (h2 : starEach [.Tuple es x1 pt] X.env = (false, eval (.Tuple es x1 pt) X.env) :: starEach [] X.env := by rfl) :
    EW X R (.Call (.Name "isinstance" p) [a, .Tuple es x1 pt] [] pos) (qIsiD K Ts f) := by
  subst hK
  intro S V H σ Γ Q r sl q
  refine wE_of (pe_callB call_isiT hg hm (by decide +kernel) (pa_cons wE_pe (pa_cons (pe_tup hT.pa) pa_nil h2) h1) (by decide) (by decide) h1 hpl) (wE_mono (ha S V H σ Γ _ r sl q) fun v H1 ⟨S1, V1, dv, r1, e1, d1, kvs, hdv, q1⟩ => ?_)
  subst hdv
  have hs : sizeLine = 16777216 := sizeLine_eq
  refine ⟨by rw [List.length_map]; omega, fun tp htp => ?_⟩
  obtain ⟨v0, f0, h0⟩ := r1.hidden htp
  have r2 : Rep X.K R S1 V1 (upd H1 tp (.tup (Ts.map fun T => .ty T.nm))) := r1.aside v0 f0 h0
  obtain ⟨a, ws, rfl, w1, _, _⟩ := d1 V1 (Same.refl _)
  exact ⟨.ref a, tp, _, _, _, _, rfl, upd_same, tys_cls Ts, .base (.dK (r2.vh _ _ w1)), kitAny_ok (.dict []) Ts, PostE.ext e1 (.hd r2 (.bl _) q1)⟩
end
end PW
namespace PW
open PySem PySem.Spec L2
/-- two promises of one def -/
theorem fn_or {P : Program} {w : World} {K : PySem.W.Frag} {mg : Str → Option Value} {base : Heap} {CX : CXT} {k : Nat} {f : Addr} {fd : FuncData} {ps : List Str} {p1 p2 : PSp} (F : FnOk P w K mg base CX k f fd ps (liftSp K p1)) (G : FnOk P w K mg base CX k f fd ps (liftSp K p2)) :
    FnOk P w K mg base CX k f fd ps (liftSp K fun dvs O Q => p1 dvs O Q ∨ p2 dvs O Q) := by
  refine ⟨fun vs H Q E h => ?_, fun A outer s H args us vs Q E hr he hb hv h => ?_⟩
  · obtain ⟨S, V, dvs, PQ, r, d, q, kk⟩ := h
    rcases q with q | q
    · exact F.len vs H Q E ⟨S, V, dvs, PQ, r, d, q, kk⟩
    · exact G.len vs H Q E ⟨S, V, dvs, PQ, r, d, q, kk⟩
  · obtain ⟨S, V, dvs, PQ, r, d, q, kk⟩ := h
    rcases q with q | q
    · exact F.run A outer s H args us vs Q E hr he hb hv ⟨S, V, dvs, PQ, r, d, q, kk⟩
    · exact G.run A outer s H args us vs Q E hr he hb hv ⟨S, V, dvs, PQ, r, d, q, kk⟩
end PW

/-! UL: a lambda handed to a def; the heap behind its making told exactly -/
namespace PW
open PySem PySem.Spec PyProof.Rows L2 LamX
/-- the heap behind the making of a lambda: as it was, or one more code object, and its table written -/
def Made (P c' : Addr) (q : Str) (H H1 : Hp) : Prop := H1 = H ∨ (H c' = none ∧ ∃ ps0 ps, H P = some (.tbl ps0) ∧ TriplesOk ps.toList ∧ (∀ (pos : Pos) (cv : Value), codeAmong pos ps.toList = some cv → codeAmong pos ps0.toList = some cv ∨ cv = .ref c') ∧
  H1 = upd (upd H P (.tbl ps)) c' (CodeO c' q))
section
variable {X : Cx} {pins : List (Addr × Obj)} {σ : L2.St} {H : Hp} {s : Shared}
theorem lam_exact {c P : Addr} {q : Str} {params : Arguments} {body : Expr} {scope : Scope} {pos : Pos} {E Q : Value → Shared → Prop} (hq : q = X.env.qual ++ "<lambda>") (I : Inv X pins σ H s) (TB : TabB X.base X.mg c P) (hcode : X.env.code = .ref c)
    (hT : TabS H P q) (hdef : defaultsOf params X.env = ([], [])) (hfree : ∀ y ∈ scope.names, y.2 = .free → ∃ c, X.env.cells.lookup y.1 = some c)
    (h : ∀ (f c' : Addr) (pm ctv : Value) (H1 : Hp) (s' : Shared), Inv X pins σ H1 s' → Made P c' q H H1 → TabS H1 P q → s'.heap.get? f = some (PySem.W.kla_obj "<lambda>" (X.env.qual ++ "<lambda>") params body scope (cloFrom X.env.cells scope.names []) pm c' ctv) →
      H1 f = none → f ∉ frs X.stack → H1 c' = some (CodeO c' q) → Q (.ref f) s') : wpAny (model X.prog X.w) X.A (eval (.Lambda params body scope pos) X.env) Q E s := by
  subst hq
  obtain ⟨ps, tP, trip, all⟩ := hT
  have oldP : s.heap.get? P = some { cls := .none, data := .fields ps } := I.hok P _ tP
  have away : ∀ f, s.heap.objs.size ≤ f → f ∉ frs X.stack := fun f big z => (List.mem_cons.mp (I.stkSub _ z)).elim (fun e => Nat.lt_irrefl _ (Nat.lt_of_lt_of_le (show f < s.heap.objs.size by have y := I.lt; rw [← e] at y; exact y) big)) fun e => I.nofs big e
  have BP : s.heap.BuiltinsAt X.mg P := TB.bm.keeps I.bk
  refine PySem.W.kla_eval hdef ?_
  cases found : codeAmong pos ps.toList with
  | some cv =>
    obtain ⟨c', rfl, hco⟩ := all pos cv found
    refine PySem.W.kla_makeFunctionHit (mg := X.mg) (c := c) (P := P) (ps := ps) (closure_ok hfree) I.ok.glob (I.mod.glob.keeps I.bk) hcode (TB.code.keeps I.bk) oldP trip found BP fun ctv h' tk kept big => ?_
    exact h h'.objs.size c' ((X.mg "__name__").getD .none) ctv H _ (I.kept fun b o e => Heap.get?_push_of_some _ (kept b o e)) (.inl rfl) ⟨ps, tP, trip, all⟩ (Heap.get?_push_size _ rfl) (I.hok.fresh big) (away _ big) hco
  | none =>
    refine PySem.W.kla_makeFunction (mg := X.mg) (c := c) (P := P) (ps := ps) (closure_ok hfree) I.ok.glob (I.mod.glob.keeps I.bk) hcode (TB.code.keeps I.bk) oldP trip found TB.gP BP fun c' ctv h' tk kept ge lt rec tb => ?_
    obtain ⟨c2, oc, vs, t, ec, g1, g2, g3⟩ := rec
    cases ec
    have big : s.heap.objs.size ≤ h'.objs.size := by omega
    have free : H c' = none := I.hok.fresh ge
    have I1 := inv_table (t' := tk) (more := #[rawInt pos.line, rawInt pos.col, .ref c']) (h' := h'.push (PySem.W.kla_obj "<lambda>" (X.env.qual ++ "<lambda>") params body scope (cloFrom X.env.cells scope.names []) ((X.mg "__name__").getD .none) c' ctv)) I tP
      (fun b o n e => Heap.get?_push_of_some _ (kept b o n e)) (Heap.get?_push_of_some _ tb) ge ⟨oc, vs, t, Heap.get?_push_of_some _ g1, g2, g3⟩
    have nPc : P ≠ c' := ne_of_none tP free
    have stay : ∀ b o, H b = some o → (∀ ps, o ≠ .tbl ps) → upd (upd H P (.tbl (ps ++ #[rawInt pos.line, rawInt pos.col, .ref c']))) c' (CodeO c' (X.env.qual ++ "<lambda>")) b = some o := fun b o e n => by
      rw [upd_ne (ne_of_none e free), upd_ne (fun z => by rw [z, tP] at e; exact n ps (Option.some.inj e).symm)]
      exact e
    have more : TriplesOk (ps ++ #[rawInt pos.line, rawInt pos.col, .ref c']).toList := by
      rw [Array.toList_append]
      exact PySem.TriplesOk_snoc _ _ _ _ trip
    refine h h'.objs.size c' ((X.mg "__name__").getD .none) ctv _ _ I1 (.inr ⟨free, ps, _, tP, more, fun p' cv hcv => by
      rw [Array.toList_append] at hcv
      exact among_app _ trip hcv, rfl⟩) ⟨ps ++ #[rawInt pos.line, rawInt pos.col, .ref c'], by rw [upd_ne nPc, upd_same], more, fun p' cv hcv => ?_⟩ (Heap.get?_push_size _ rfl) ?_ (away _ big) upd_same
    · rw [Array.toList_append] at hcv
      rcases among_app _ trip hcv with z | z
      · obtain ⟨c0, e1, e2⟩ := all p' cv z
        exact ⟨c0, e1, stay _ _ e2 codeO_ne⟩
      · exact ⟨c', z, upd_same⟩
    · have h1 : h'.objs.size ≠ c' := by omega
      have h2 : h'.objs.size ≠ P := Nat.ne_of_gt (Nat.lt_of_lt_of_le (Heap.lt_size oldP) big)
      rw [upd_ne h1, upd_ne h2]
      exact I.hok.fresh big
end
/-- x(lambda: body): what the def makes of the lambda's reading -/
def tLamX (P : Addr) (q : Str) (TT : (XK → Hp → VK → Prop) → Hp → VK → Prop) (t : XK → TE) : TE := fun σ H Q => TabS H P q ∧ ∀ c' H1, Made P c' q H H1 → TabS H1 P q → TT (fun E H' Q' => t E σ H' Q') H1 Q
theorem pe_lamX {X : Cx} {q : Str} {TT : (XK → Hp → VK → Prop) → Hp → VK → Prop} {x a : Str} {g c P : Addr} {k : Nat} {pg : Arguments} {bg : List Stmt} {sg : Scope} {dV kV doc pm cdv ct oc : Value} {an od : Option Addr} {osl : Array (Option Value)} {Ng : List Str}
    {params : Arguments} {body : Expr} {scope : Scope} {t : XK → TE} {p lpos pos : Pos} (hq : q = X.env.qual ++ "<lambda>") (hg : Gl X x) (hm : X.mg x = some (.ref g)) (hk : PySem.W.keepIn X.K (.ref g) = true)
    (lk : X.K.lookup g = some ⟨oc, od, .func (PySem.W.fnOf x x pg bg sg dV kV doc pm an cdv ct), osl⟩) (hcg : PySem.W.codeIn X.K cdv x = true) (hb : L2.Binds X.K (PySem.W.fnOf x x pg bg sg dV kV doc pm an cdv ct) [a] []) (Sg : FnScope Ng [a] sg) (hNg : Ng[0]? = some a) (hva : Vis sg a)
    (hG : GivesTo X Ng x sg g cdv bg a q TT) (TB : TabB X.base X.mg c P) (hcode : X.env.code = .ref c) (hr : Room (k + 2) X.A) (L : LamS X.env.scope scope) (hdef : defaultsOf params X.env = ([], []))
    (hbind : ∀ (q : Str) (cl : List (Str × Addr)) (pm cv ctv : Value), bindArgs (PySem.W.kla_fn "<lambda>" q params body scope cl pm cv ctv) ⟨[], []⟩ = pure [])
    (hbody : ∀ (A : Around) (outer : List Env) (s : Shared) (H : Hp) (E : XK) (f c' : Addr), Room k (A.deeper (lamEnv X scope s.heap.objs.size f c')) → PE (lamCx X A outer s H E scope f c') body (t E))
    (hdb : (x == ("__debug__" : Str)) = false := by decide) (hd : (a == ("__debug__" : Str)) = false := by decide) (hcd : (a == ("__classdict__" : Str)) = false := by decide) :
    PE X (.Call (.Name x p) [.Lambda params body scope lpos] [] pos) (tLamX P q TT t) := by
  subst hq
  refine ⟨fun pins s σ H Q I ⟨hT, h⟩ => ?_⟩
  refine wpAny_Call_Name_kw (ld_glob I hg hm (PySem.W.callWith_K (h₀ := X.base) I.ok.mod.kin hk ?_ (by rfl) (by rfl)) hdb)
  show wpAny _ _ (spliced ((false, eval (.Lambda params body scope lpos) X.env) :: backTo pos (starEach [] X.env))) _ _ s
  refine Calls.spliced_cons (lam_exact rfl I TB hcode hT hdef (L.has I.ok) fun f c' pm' ctv H1 s' I1 eM T1 hf hfn hfr hco => Calls.spliced_nil ⟨I1.kIn, ?_⟩)
  have rc : codeAny (model X.prog X.w) X.A (.call (.ref g) ⟨[.ref f], []⟩) (CR C8.CX0 X.stack X.prog X.w H1 s' Q C8.E0) s' := by
    refine run_ofS (N := Ng) (ps := [a]) (us := [.ref f]) (vs := [.ref f]) lk hcg Sg hr I1.env0 (hb s' [.ref f] I1.kIn rfl) (.cons rfl .nil) rfl fun hr' => ?_
    obtain ⟨t', ht', hq'⟩ := hG f c' s' H1 Q (fun E H' Q' => t E σ H' Q') (fun W pn xe E p1 p2 tk hW => pe_act (i := 0) I1 L hf hfn hfr (hbind _ _ _ _ _) tk hW hr' (fun A outer s H hr2 => hbody A outer s H E f c' hr2) hNg hva hd hcd) hco (h c' H1 eM T1)
    exact ⟨t', ht'.nox, hq'⟩
  refine wpAny_call (codeAny_mono rc fun r s2 hq => ?_)
  cases r with
  | error e => exact (show False from hq).elim
  | ok fl => cases fl with
    | ret u => exact I1.after hq
    | next => exact (show False from hq).elim
    | brk => exact (show False from hq).elim
    | cont => exact (show False from hq).elim
end PW

/-! UT: the table of the law's code objects as an owned thing; a def called with a lambda that raises -/
namespace PW
open PySem PySem.Spec PyProof.Rows L2 LamX
def tblφ (P : Addr) (q : Str) (V H : Hp) : Prop := ∃ ps : Array Value, H P = some (.tbl ps) ∧ TriplesOk ps.toList ∧ ∀ (pos : Pos) (cv : Value), codeAmong pos ps.toList = some cv → ∃ c, cv = .ref c ∧ V c = some (CodeO c q)
/-- the table at P, its code objects in the view -/
def tblO (P : Addr) (q : Str) : Ob := .ext fun V H a fs => a = P ∧ fs = [P] ∧ tblφ P q V H
section
variable {K : PySem.W.Frag} {R : Fr} {S : List Cell} {V H : Hp} {P : Addr} {q : Str} {j : Nat}
theorem tbl_own (vh : Same V H) (h : tblφ P q V H) : OwnAt K V H P [P] (tblO P q) := by
  obtain ⟨ps, h1, h2, h3⟩ := h
  refine ⟨fun b hb xs e => ?_, fun V' H' s s' k => ⟨rfl, rfl, ps, ?_, h2, fun pos cv hc => ?_⟩⟩
  · rw [List.mem_singleton.mp hb, h1] at e; cases e
  · rw [k P (List.mem_singleton_self P)]; exact h1
  · obtain ⟨c, e1, e2⟩ := h3 pos cv hc
    exact ⟨c, e1, s _ _ e2⟩
theorem own_tbl (r : Rep K R S V H) (h : (obs S)[j]? = some (tblO P q)) : S[j]? = some (P, [P], tblO P q) ∧ tblφ P q V H := by
  obtain ⟨⟨a, fs, o⟩, hc, ho⟩ := obs_get h
  have ho : o = tblO P q := ho
  subst ho
  obtain ⟨e1, e2, h3⟩ := (r.own j _ hc).2 V H (Same.refl _) r.vh (fun _ _ => rfl)
  dsimp only at e1 e2
  subst e1 e2
  exact ⟨hc, h3⟩
theorem tbl_tab (vh : Same V H) (h : tblφ P q V H) : TabS H P q := by
  obtain ⟨ps, h1, h2, h3⟩ := h
  exact ⟨ps, h1, h2, fun pos cv hc => by
    obtain ⟨c, e1, e2⟩ := h3 pos cv hc
    exact ⟨c, e1, vh _ _ e2⟩⟩
theorem set_self {α : Type} : ∀ {xs : List α} {i : Nat} {x : α}, xs[i]? = some x → xs.set i x = xs
  | [], i, x, h => by simp at h
  | y :: ys, 0, x, h => by simp at h; rw [List.set_cons_zero, h]
  | y :: ys, i + 1, x, h => by rw [List.set_cons_succ, set_self (i := i) (by simpa using h)]
/-- the lambda is made -/
theorem Rep.made (r : Rep K R S V H) (h : (obs S)[j]? = some (tblO P q)) {c' : Addr} {H1 : Hp} (m : Made P c' q H H1) : ∃ V1, Rep K R S V1 H1 ∧ Ext S V S V1 := by
  rcases m with rfl | ⟨free, ps0, ps, e0, tr, more, rfl⟩
  · exact ⟨V, r, Ext.refl⟩
  · obtain ⟨hc, q0, b1, b2, b3⟩ := own_tbl r h
    rw [e0] at b1
    cases b1
    have nPc : P ≠ c' := ne_of_none e0 free
    obtain ⟨r1, e1⟩ := r.new (o := CodeO c' q) free
    have vP : V P = none := (r.foot j _ hc P (List.mem_singleton_self P)).1
    have vh2 : Same (upd V c' (CodeO c' q)) (upd (upd H c' (CodeO c' q)) P (.tbl ps)) := fun b o e => by
      have n : b ≠ P := fun z => by rw [z, upd_ne nPc, vP] at e; cases e
      rw [upd_ne n]
      exact r1.vh b o e
    obtain ⟨r2, e2⟩ := r1.put (o := .tbl ps) (ob' := tblO P q) hc (tbl_own vh2 ⟨ps, upd_same, tr, fun pos cv hcv => by
      rcases more pos cv hcv with z | z
      · obtain ⟨c, g1, g2⟩ := b3 pos cv z
        exact ⟨c, g1, by rw [upd_ne (ne_of_none (r.vh _ _ g2) free)]; exact g2⟩
      · exact ⟨c', z, upd_same⟩⟩)
    have eS : S.set j (P, [P], tblO P q) = S := set_self hc
    have eH : upd (upd H c' (CodeO c' q)) P (.tbl ps) = upd (upd H P (.tbl ps)) c' (CodeO c' q) := by
      funext b
      by_cases h1 : b = P
      · subst h1; rw [upd_same, upd_ne nPc, upd_same]
      · by_cases h2 : b = c'
        · subst h2; rw [upd_ne h1, upd_same, upd_same]
        · rw [upd_ne h1, upd_ne h2, upd_ne h2, upd_ne h1]
    rw [eS, eH] at r2
    exact ⟨_, r2, e1⟩
/-- as grow; any tuple may be taken in -/
theorem Rep.growT {W H' : Hp} (r : Rep K R S V H) (s : Same H H') (sv : Same V W) (hw : Same W H') (hn : ∀ b, W b ≠ none → V b ≠ none ∨ H b = none ∨ ∃ xs, W b = some (.tup xs)) : Rep K R S W H' ∧ Ext S V S W := by
  have stay : ∀ (i : Nat) (c : Cell), S[i]? = some c → ∀ b ∈ c.2.1, H' b = H b := fun i c e b hb => by
    cases q : H b with
    | none => exact ((r.foot i c e b hb).2.1 q).elim
    | some o => exact s b o q
  refine ⟨⟨r.v0.trans sv, hw, fun b o hb e => s b o (r.keep b o hb e), fun b hb => ?_, fun b e => ?_, fun i c e => (r.own i c e).stay sv hw (stay i c e), fun i c e b hb => ?_, r.sep⟩, ⟨sv, fun i c h => ⟨c, h, rfl⟩⟩⟩
  · have f := r.f0 b hb
    cases q : H b with
    | none => exact (f q).elim
    | some o => rw [s b o q]; simp
  · rcases hn b e with h | h | h
    · rcases r.vnew b h with y | y | ⟨xs, y⟩
      · exact .inl y
      · exact .inr (.inl y)
      · exact .inr (.inr ⟨xs, sv _ _ y⟩)
    · exact .inr (.inl (r.none0 h))
    · exact .inr (.inr h)
  · obtain ⟨h1, h2, h3⟩ := r.foot i c e b hb
    refine ⟨?_, by rw [stay i c e b hb]; exact h2, h3⟩
    cases q : W b with
    | none => rfl
    | some o =>
      rcases hn b (by rw [q]; simp) with h | h | ⟨xs, h⟩
      · exact (h h1).elim
      · exact (h2 h).elim
      · have e2 := hw b _ h
        rw [stay i c e b hb] at e2
        exact ((r.own i c e).notup b hb xs e2).elim
end
/-- f(lambda: g(..)) where g raises: what f makes of the error -/
def qTried (P : Addr) (q tag : Str) (pr : PEnv → List Ob → PyData → Prop) : PTE := fun Γ O Q => (∃ j : Nat, O[j]? = some (tblO P q)) ∧ ∃ y, pr Γ O y ∧ Q (.d (.tuple [.str tag, y])) O
theorem ew_tried {X : Cx} {R : Fr} {e : Expr} {P : Addr} {q tag : Str} {TT : (XK → Hp → VK → Prop) → Hp → VK → Prop} {t : XK → TE} {pr : PEnv → List Ob → PyData → Prop} (hp : PE X e (tLamX P q TT t))
    (hth : ∀ (S : List Cell) (V H : Hp) (σ : L2.St) (Γ : PEnv) (y : PyData) (Q : VK), Rep X.K R S V H → Slots X.K S V σ Γ → pr Γ (obs S) y → (∀ p H2 u, Same H H2 → Dq X.K V u y → H2 p = some (.tup [.str tag, u]) → Q (.ref p) H2) → TT (fun E H' Q' => t E σ H' Q') H Q) :
    EW X R e (qTried P q tag pr) := by
  intro S V H σ Γ Q r sl ⟨⟨j, hj⟩, y, hy, k⟩
  refine wE_of hp ⟨tbl_tab r.vh (own_tbl r hj).2, fun c' H1 m T1 => ?_⟩
  obtain ⟨V1, r1, e1⟩ := r.made hj m
  refine hth S V1 H1 σ Γ y _ r1 (sl.mono e1) hy fun p H2 u s2 du hp2 => ?_
  obtain ⟨W, hW⟩ : ∃ W : Hp, W = upd V1 p (.tup [.str tag, u]) := ⟨_, rfl⟩
  have sv : Same V1 W := fun b o e => by
    rw [hW]
    by_cases z : b = p
    · subst z
      have := s2 _ _ (r1.vh _ _ e)
      rw [hp2] at this
      rw [upd_same]
      exact this
    · rw [upd_ne z]; exact e
  have hw : Same W H2 := fun b o e => by
    rw [hW] at e
    by_cases z : b = p
    · subst z
      rw [upd_same] at e
      rw [hp2]
      exact e
    · rw [upd_ne z] at e
      exact s2 _ _ (r1.vh _ _ e)
  obtain ⟨r3, e3⟩ := r1.growT s2 sv hw fun b hb => by
    rw [hW] at hb ⊢
    by_cases z : b = p
    · exact .inr (.inr ⟨_, by rw [z, upd_same]⟩)
    · rw [upd_ne z] at hb
      exact .inl hb
  exact PostE.ext (e1.trans e3) (.hd r3 (.tup (SqT.of (by rw [hW, upd_same])) (.cons (.str _) (.cons (du.mono e3.v) .nil))) k)
end PW

/-! XE: own errors of one field: the class, the raising, what comes of it -/
namespace HN
open PySem PySem.Spec PyProof.Rows L2
/-- an own error of one field, as the top leaves it -/
structure ErrC (P : Program) (K : PySem.W.Frag) (mg : Str → Option Value) (x qual par fld : Str) (C fI : Addr) (fdI : FuncData) : Prop where
  g : mg x = some (.ref C)
  cl : XCl P K mg fld C
  fn : XFn P K qual par fld C fI fdI
  iC : PySem.W.findIn K (.ref C) "__init__" = some (some (.ref fI))
  tI : PySem.W.typeIn K (.ref fI) = some (.type "function")
  b : Binds K fdI [("self" : Str), par] []
  xf : XfC K C
theorem ps_raiseE {X : Cx} {x qual par fld : Str} {C fI : Addr} {fdI : FuncData} {W : WX} {e : Expr} {es : List Expr} {ta : TA} {p pos po : Pos} (R : ErrC X.prog X.K X.mg x qual par fld C fI fdI) (hp : ("self" : Str) ≠ par) (hpd : (par == ("__debug__" : Str)) = false) (hpc : (par == ("__classdict__" : Str)) = false)
    (hg : Gl X x) (hr : Room 2 X.A) (hc : X.calm = true) (tk : Takes X W) (ha : PA X (e :: es) ta) (hdb : (x == ("__debug__" : Str)) = false := by decide)
    (he : starEach (e :: es) X.env = (false, eval e X.env) :: starEach es X.env := by rfl) (hpl : (backTo pos (starEach es X.env)).any (·.1) = false := by rfl) :
    PS X (.Raise (some (.Call (.Name x p) (e :: es) [] pos)) none po) (fun _ σ H => tMkO C (spXInit C fld) [] ta σ H fun cls d H' => W cls d σ H') :=
  ps_raise hc tk (pmk_oex R.cl.ox R.iC R.tI (ok_xinit R.fn R.cl hp hpd hpc) hr R.b .nil pass0 hg R.g ha hdb he hpl)
theorem sameN {H : Hp} {p : Addr} {o : HO} (hp : H p = none) : Same H (upd H p o) := fun b u e => by rw [upd_ne (ne_of_none e hp)]; exact e
/-- the error that comes holds x -/
def ErrIs (C : Addr) (fld : Str) (x : V) (H : Hp) (E : L2.XK) : Prop := ∀ d H', Same H H' → H' d = some (.xd [(fld, x)]) → E (.ref C) (some d) H'
theorem ErrIs.same {C : Addr} {fld : Str} {x : V} {H H1 : Hp} {E : L2.XK} (h : ErrIs C fld x H E) (s : Same H H1) : ErrIs C fld x H1 E := fun d H' s' e => h d H' (s.trans s') e
theorem ErrIs.mk {C : Addr} {fld : Str} {x : V} {H : Hp} {E : L2.XK} (h : ErrIs C fld x H E) (d : Addr) (hd : H d = none) : E (.ref C) (some d) (upd H d (.xd [(fld, x)])) := h d _ (sameN hd) upd_same
theorem takes_len {X : Cx} {W : WX} (tk : Takes X W) : Takes X (fun cls d σ H => σ.length = X.N.length → W cls d σ H) :=
  fun u s' ⟨a, B, sI, pins, σ, H, cls, d, e, I, nb, up, sky, na, os, ag, w⟩ => tk u s' ⟨a, B, sI, pins, σ, H, cls, d, e, I, nb, up, sky, na, os, ag, w I.len⟩
/-- tried(lambda: ..) where the error of one class comes: the tag and what the error holds -/
def TT1 (C : Addr) (fld tag : Str) : (L2.XK → Hp → VK → Prop) → Hp → VK → Prop := fun tl H Q =>
  tl (fun cls d H' => ∃ (dd : Addr) (u : V), cls = .ref C ∧ d = some dd ∧ H' dd = some (.xd [(fld, u)]) ∧ ∀ p H2, Same H' H2 → H2 p = some (.tup [.str tag, u]) → Q (.ref p) H2) H
    (fun v H' => [V.str "told", v].length ≤ sizeLine ∧ ∀ p, H' p = none → ∃ y, (some (some (V.ref p)) : Option (Option V)) = some (some y) ∧ Q y (upd H' p (.tup [.str "told", v])))
end HN
namespace PW
open PySem PySem.Spec PyProof.Rows L2
/-- nothing is owned -/
theorem rep_nil {K : PySem.W.Frag} {V H : Hp} (s : Same V H) : Rep K (.here [] V H) [] V H :=
  ⟨Same.refl _, s, fun b o _ e => e, fun b hb => (by cases hb), fun b hb => .inl hb, fun i c e => (by simp at e), fun i c e => (by simp at e), fun i j c c' _ e => (by simp at e)⟩
end PW

/-! UF: a law that hands lambdas on: its entry, with the table of its code objects -/
namespace HN
open PySem PySem.Spec PyProof.Rows L2
/-- a def whose code object is known -/
structure FunC (K : PySem.W.Frag) (x qual : Str) (st : Stmt) (f : Addr) (fd : FuncData) (cd : Addr) : Prop where
  ex : ∃ (oc : Value) (od : Option Addr) (kV doc pm : Value) (an : Option Addr) (ct : Value) (osl : Array (Option Value)),
    fd = PySem.W.fnOf x qual (defArgs st) (defBody st) (defScope st) .none kV doc pm an (.ref cd) ct ∧ K.lookup f = some ⟨oc, od, .func fd, osl⟩ ∧ PySem.W.codeIn K (.ref cd) qual = true
  kp : PySem.W.keepIn K (.ref f) = true
theorem FunC.ok {P : Program} {w : World} {K : PySem.W.Frag} {mg : Str → Option Value} {base : Heap} {x qual : Str} {st : Stmt} {f cd : Addr} {fd : FuncData} {N ps : List Str} {k : Nat} {sp : Sp} (F : FunC K x qual st f fd cd) (S : FnScope N ps (defScope st)) (len : ∀ vs H Q E, sp vs H Q E → vs.length = ps.length)
    (hbody : ∀ (A : Around) (outer : List Env) (s : Shared) (H : Hp) (vs : List V) (Q : VK) (E : L2.XK), Room k (A.deeper (envOfC qual (defScope st) s.heap.objs.size f (.ref cd))) → sp vs H Q E →
      ∃ t, PSs (cxOf CX0 P w K mg base N qual (defScope st) f (.ref cd) A outer s H E).nox (defBody st) t ∧ t { nx := fun _ H' => Q .non H', rt := Q } (L2.start N vs) H) : FnOk P w K mg base CX0 (k + 1) f fd ps sp := by
  obtain ⟨oc, od, kV, doc, pm, an, ct, osl, rfl, lk, hcd⟩ := F.ex
  exact fn_of lk hcd S len fun A outer s H vs Q E hr hsp => let ⟨t, h, q⟩ := hbody A outer s H vs Q E hr hsp; ⟨t, h.nox, q⟩
end HN
namespace PW
open PySem PySem.Spec PyProof.Rows L2 LamX
/-- all but the tables -/
def noTb (H : Hp) : Hp := fun b => match H b with
  | some (.tbl _) => none
  | o => o
theorem noTb_sub (H : Hp) : Same (noTb H) H := fun b o e => by
  unfold noTb at e
  split at e
  · cases e
  · exact e
theorem noTb_get {H : Hp} {b : Addr} {o : HO} (e : H b = some o) (h : ∀ ps, o ≠ .tbl ps) : noTb H b = some o := by
  unfold noTb
  rw [e]
  cases o <;> first | rfl | exact absurd rfl (h _)
theorem noTb_tbl {H : Hp} {b : Addr} {ps : Array Value} (e : H b = some (.tbl ps)) : noTb H b = none := by
  unfold noTb
  rw [e]
theorem noTb_seq {K : PySem.W.Frag} {H : Hp} {a : Addr} {xs : List L2.V} (h : SqL K H a xs) : SqL K (noTb H) a xs := by
  rcases h with (h | ⟨o, h⟩) | h
  · exact .inl (.inl (noTb_get h fun _ z => nomatch z))
  · exact .inl (.inr ⟨o, noTb_get h fun _ z => nomatch z⟩)
  · exact .inr h
def spLawT (K : PySem.W.Frag) (Pt : Addr) : Sp := fun vs H Q _ => ∃ (a : Addr) (ns : List Int), vs = [.ref a] ∧ SqL K H a (ns.map V.int) ∧ ns.length ≤ 100 ∧ H Pt = some (.tbl #[]) ∧ ∀ H', Q (.bl true) H'
def lawFr (Pt : Addr) (H : Hp) : Fr := ⟨noTb H, [[Pt]], noTb H⟩
theorem rep_law {K : PySem.W.Frag} {H : Hp} {Pt : Addr} {q : Str} (h : H Pt = some (.tbl #[])) : Rep K (lawFr Pt H) [(Pt, [Pt], tblO Pt q)] (noTb H) H := by
  have one : ∀ {i : Nat} {c : Cell}, ([(Pt, [Pt], tblO Pt q)] : List Cell)[i]? = some c → i = 0 ∧ c = (Pt, [Pt], tblO Pt q) := fun {i c} e => by
    cases i with
    | zero => simp at e; exact ⟨rfl, e.symm⟩
    | succ i => simp at e
  refine ⟨Same.refl _, noTb_sub H, fun b o _ e => noTb_sub H b o e, fun b hb => ?_, fun b hb => .inl hb, fun i c e => ?_, fun i c e b hb => ?_, fun i j c c' n e e' => ?_⟩
  · have : b = Pt := by
      have hb' : b ∈ ([[Pt]] : List (List Addr)).flatten := hb
      simpa using hb'
    rw [this, h]; simp
  · obtain ⟨_, rfl⟩ := one e
    refine tbl_own (noTb_sub H) ⟨#[], h, True.intro, fun pos cv hc => ?_⟩
    have z : codeAmong pos [] = some cv := hc
    simp [codeAmong] at z
  · obtain ⟨rfl, rfl⟩ := one e
    have hb' : b = Pt := List.mem_singleton.mp hb
    subst hb'
    exact ⟨noTb_tbl h, by rw [h]; simp, .inl ⟨[b], rfl, List.mem_singleton_self b⟩⟩
  · exact absurd ((one e).1.trans (one e').1.symm) n
section
variable {P : Program} {w : World} {K : PySem.W.Frag} {mg : Str → Option Value} {base : Heap}
theorem fnLawT {x : Str} {st : Stmt} {f cd Pt : Addr} {fd : FuncData} {N : List Str} {k : Nat} {q : Str} {F : PTS} (Fn : HN.FunC K x x st f fd cd) (Sc : FnScope N ["_law_script"] (defScope st))
    (body : ∀ (A : Around) (outer : List Env) (s : Shared) (H : Hp) (E : XK), Room k (A.deeper (envOfC x (defScope st) s.heap.objs.size f (.ref cd))) → ∀ R : Fr, BW (cxOf CX0 P w K mg base N x (defScope st) f (.ref cd) A outer s H E).nox R (defBody st) F)
    (h : ∀ ns : List Int, ns.length ≤ 100 → F { nx := fun _ _ => False, rt := fun dv _ => dv = .d (.bool true) } (startG N [.x (scriptψ K ns)]) [tblO Pt q]) : FnOk P w K mg base CX0 (k + 1) f fd ["_law_script"] (spLawT K Pt) := by
  refine Fn.ok Sc (fun vs H Q E z => ?_) (fun A outer s H vs Q E hr z => ?_)
  · obtain ⟨a, ns, rfl, _⟩ := z
    rfl
  · obtain ⟨a, ns, rfl, hs, hn, ht, kk⟩ := z
    have r := rep_law (K := K) (q := q) ht
    have d : DVs K [(Pt, [Pt], tblO Pt q)] (noTb H) [V.ref a] [.x (scriptψ K ns)] := .cons (fun V' sv => ⟨a, rfl, (noTb_seq hs).elim (fun h => h.elim (fun h => .inl (.inl (sv _ _ h))) fun ⟨o, h⟩ => .inl (.inr ⟨o, sv _ _ h⟩)) .inr⟩) .nil
    refine ⟨_, wB_pss, body A outer s H E hr (lawFr Pt H) _ (noTb H) H _ _ _ _ r (slots_start d) (h ns hn) ⟨fun σ' H' ⟨S', V', Γ', r', e', sl', q'⟩ => q'.elim, fun v H' ⟨S', V', dv, r', e', d', q'⟩ => ?_, fun σ' H' ⟨S', V', Γ', r', e', sl', q'⟩ => q'.elim, fun σ' H' ⟨S', V', Γ', r', e', sl', q'⟩ => q'.elim⟩⟩
    subst q'
    cases d'
    exact kk H'
end
end PW
namespace PW
open PySem PySem.Spec L2
theorem pe_conv {X : Cx} {e : Expr} {t t2 : TE} (he : PE X e t) (h : ∀ σ H Q, t2 σ H Q → t σ H Q) : PE X e t2 := ⟨fun pins s σ H Q I q => he.run pins s σ H Q I (h σ H Q q)⟩
end PW

namespace PW
open PySem PySem.Spec PyProof.Rows L2
/-! ### clamps: the mathematics -/
def endD : Option Int → PyData
  | none => .none
  | some i => .int i
structure Cl where
  lo : Option Int
  s : Int
  hi : Option Int
  deriving DecidableEq
def Cl.ok (c : Cl) : Prop := ∀ l h, c.lo = some l → c.hi = some h → l ≤ h
def Cl.ds (c : Cl) : List PyData := [endD c.lo, .int c.s, endD c.hi]
def kwI (x : Int) (lo hi : Option Int) : Int := match lo with
  | some l => if x < l then l else match hi with
    | some h => if x > h then h else x
    | none => x
  | none => match hi with
    | some h => if x > h then h else x
    | none => x
def Cl.act (c : Cl) (x : Int) : Int := kwI (x + c.s) c.lo c.hi
def formC (c : Cl) : Cl := match c.lo, c.hi with
  | some l, some h => ⟨c.lo, if l = h then 0 else c.s, c.hi⟩
  | _, _ => c
def Cl.isForm (c : Cl) : Prop := c.ok ∧ ∀ l, c.lo = some l → c.hi = some l → c.s = 0
def bothC (a b : Cl) : Cl := formC ⟨match a.lo with | none => b.lo | some l => some (kwI (l + b.s) b.lo b.hi), a.s + b.s, match a.hi with | none => b.hi | some h => some (kwI (h + b.s) b.lo b.hi)⟩
def idC : Cl := ⟨none, 0, none⟩
def joinC (cs : List Cl) : Cl := cs.foldl bothC idC
theorem form_act {c : Cl} (h : c.ok) (x : Int) : (formC c).act x = c.act x := by
  obtain ⟨lo, s, hi⟩ := c
  cases lo with
  | none => rfl
  | some l => cases hi with
    | none => rfl
    | some u =>
      have := h l u rfl rfl
      show kwI (x + (if l = u then 0 else s)) (some l) (some u) = kwI (x + s) (some l) (some u)
      by_cases q : l = u
      · subst q
        rw [if_pos rfl]
        simp only [kwI]
        (repeat' split) <;> omega
      · rw [if_neg q]
theorem form_ok {c : Cl} (h : c.ok) : (formC c).ok := by
  obtain ⟨lo, s, hi⟩ := c
  unfold formC
  cases lo with
  | none => exact h
  | some l => cases hi with
    | none => exact h
    | some u => exact h
theorem form_isForm {c : Cl} (h : c.ok) : (formC c).isForm := by
  refine ⟨form_ok h, ?_⟩
  obtain ⟨lo, s, hi⟩ := c
  unfold formC
  intro l h1 h2
  cases lo with
  | none => cases h1
  | some l' => cases hi with
    | none => cases h2
    | some u =>
      dsimp only at h1 h2 ⊢
      cases h1; cases h2
      rw [if_pos rfl]
theorem isForm_form {c : Cl} (h : c.isForm) : formC c = c := by
  obtain ⟨lo, s, hi⟩ := c
  unfold formC
  cases lo with
  | none => rfl
  | some l => cases hi with
    | none => rfl
    | some u =>
      dsimp only
      by_cases q : l = u
      · subst q
        have : s = 0 := h.2 l rfl rfl
        rw [if_pos rfl, this]
      · rw [if_neg q]
theorem kw_mono {x y : Int} {lo hi : Option Int} (h : ∀ l u, lo = some l → hi = some u → l ≤ u) (e : x ≤ y) : kwI x lo hi ≤ kwI y lo hi := by
  unfold kwI
  cases lo with
  | none => cases hi with
    | none => exact e
    | some u => dsimp only; split <;> split <;> omega
  | some l => cases hi with
    | none => dsimp only; split <;> split <;> omega
    | some u =>
      have := h l u rfl rfl
      dsimp only
      split <;> split <;> (try split) <;> (try split) <;> omega
theorem both_pre_ok {a b : Cl} (ha : a.ok) (hb : b.ok) : Cl.ok ⟨match a.lo with | none => b.lo | some l => some (kwI (l + b.s) b.lo b.hi), a.s + b.s, match a.hi with | none => b.hi | some h => some (kwI (h + b.s) b.lo b.hi)⟩ := by
  obtain ⟨la, sa, ua⟩ := a
  obtain ⟨lb, sb, ub⟩ := b
  intro l h e1 e2
  have bt : ∀ {x : Int} {l : Int}, lb = some l → l ≤ kwI x lb ub := by
    intro x l e
    subst e
    unfold kwI
    cases ub with
    | none => dsimp only; split <;> omega
    | some u =>
      have := hb l u rfl rfl
      dsimp only; split <;> (try split) <;> omega
  have tp : ∀ {x : Int} {u : Int}, ub = some u → kwI x lb ub ≤ u := by
    intro x u e
    subst e
    unfold kwI
    cases lb with
    | none => dsimp only; split <;> omega
    | some l =>
      have := hb l u rfl rfl
      dsimp only; split <;> (try split) <;> omega
  cases la with
  | none => cases ua with
    | none => exact hb l h e1 e2
    | some v =>
      dsimp only at e1 e2
      cases e2
      exact bt e1
  | some k => cases ua with
    | none =>
      dsimp only at e1 e2
      cases e1
      exact tp e2
    | some v =>
      dsimp only at e1 e2
      cases e1; cases e2
      have : k ≤ v := ha k v rfl rfl
      exact kw_mono (fun l u => hb l u) (by omega)
theorem both_act {a b : Cl} (ha : a.ok) (hb : b.ok) (x : Int) : (bothC a b).act x = b.act (a.act x) := by
  unfold bothC
  rw [form_act (both_pre_ok ha hb)]
  obtain ⟨la, sa, ua⟩ := a
  obtain ⟨lb, sb, ub⟩ := b
  have hb' : ∀ l u, lb = some l → ub = some u → l ≤ u := fun l u => hb l u
  have ha' : ∀ l u, la = some l → ua = some u → l ≤ u := fun l u => ha l u
  unfold Cl.act
  dsimp only
  cases la with
  | none => cases ua with
    | none =>
      show kwI (x + (sa + sb)) lb ub = kwI (x + sa + sb) lb ub
      rw [Int.add_assoc]
    | some v =>
      dsimp only
      cases lb with
      | none => cases ub with
        | none => grind [kwI]
        | some u => simp only [kwI]; (repeat' split) <;> omega
      | some l => cases ub with
        | none => simp only [kwI]; (repeat' split) <;> omega
        | some u =>
          have := hb' l u rfl rfl
          simp only [kwI]; (repeat' split) <;> omega
  | some k => cases ua with
    | none =>
      dsimp only
      cases lb with
      | none => cases ub with
        | none => simp only [kwI]; (repeat' split) <;> omega
        | some u => simp only [kwI]; (repeat' split) <;> omega
      | some l => cases ub with
        | none => simp only [kwI]; (repeat' split) <;> omega
        | some u =>
          have := hb' l u rfl rfl
          simp only [kwI]; (repeat' split) <;> omega
    | some v =>
      have := ha' k v rfl rfl
      dsimp only
      cases lb with
      | none => cases ub with
        | none => simp only [kwI]; (repeat' split) <;> omega
        | some u => simp only [kwI]; (repeat' split) <;> omega
      | some l => cases ub with
        | none => simp only [kwI]; (repeat' split) <;> omega
        | some u =>
          have := hb' l u rfl rfl
          simp only [kwI]; (repeat' split) <;> omega
theorem both_form {a b : Cl} (ha : a.ok) (hb : b.ok) : (bothC a b).isForm := form_isForm (both_pre_ok ha hb)
theorem id_form : idC.isForm := ⟨fun l h e => (nomatch e), fun l e => (nomatch e)⟩
theorem id_act (x : Int) : idC.act x = x := by simp [idC, Cl.act, kwI]
/-- what clamps make, one behind another -/
def actL (cs : List Cl) (x : Int) : Int := cs.foldl (fun y c => c.act y) x
theorem fold_both : ∀ (cs : List Cl) (a : Cl), a.isForm → (∀ c ∈ cs, c.ok) → (cs.foldl bothC a).isForm ∧ ∀ x, (cs.foldl bothC a).act x = actL cs (a.act x)
  | [], a, h, _ => ⟨h, fun _ => rfl⟩
  | c :: cs, a, h, hc => by
    obtain ⟨h1, h2⟩ := fold_both cs (bothC a c) (both_form h.1 (hc c List.mem_cons_self)) fun d hd => hc d (List.mem_cons_of_mem _ hd)
    refine ⟨h1, fun x => ?_⟩
    rw [List.foldl_cons, h2 x, both_act h.1 (hc c List.mem_cons_self)]
    rfl
theorem join_form {cs : List Cl} (hc : ∀ c ∈ cs, c.ok) : (joinC cs).isForm := (fold_both cs idC id_form hc).1
theorem join_act {cs : List Cl} (hc : ∀ c ∈ cs, c.ok) (x : Int) : (joinC cs).act x = actL cs x := by
  unfold joinC
  rw [(fold_both cs idC id_form hc).2 x, id_act]
/-- far out -/
theorem act_top {c : Cl} {N X : Int} (hl : ∀ l, c.lo = some l → l ≤ N) (hu : ∀ u, c.hi = some u → u ≤ N) (hs : -N ≤ c.s) (hX : 2 * N + 1 ≤ X) : c.act X = match c.hi with | some u => u | none => X + c.s := by
  obtain ⟨lo, s, hi⟩ := c
  unfold Cl.act kwI
  dsimp only at hs hl hu ⊢
  cases lo with
  | none => cases hi with
    | none => rfl
    | some u =>
      have := hu u rfl
      dsimp only
      rw [if_pos (by omega)]
  | some l =>
    have := hl l rfl
    cases hi with
    | none =>
      dsimp only
      rw [if_neg (by omega)]
    | some u =>
      have := hu u rfl
      dsimp only
      rw [if_neg (by omega), if_pos (by omega)]
theorem act_bot {c : Cl} {N X : Int} (hl : ∀ l, c.lo = some l → -N ≤ l) (hu : ∀ u, c.hi = some u → -N ≤ u) (hs : c.s ≤ N) (hX : X ≤ -(2 * N + 1)) : c.act X = match c.lo with | some u => u | none => X + c.s := by
  obtain ⟨lo, s, hi⟩ := c
  unfold Cl.act kwI
  dsimp only at hs hl hu ⊢
  cases lo with
  | none => cases hi with
    | none => rfl
    | some u =>
      have := hu u rfl
      dsimp only
      rw [if_neg (by omega)]
  | some l =>
    have := hl l rfl
    cases hi with
    | none =>
      dsimp only
      rw [if_pos (by omega)]
    | some u =>
      have := hu u rfl
      dsimp only
      rw [if_pos (by omega)]
structure Cl.within (c : Cl) (N : Int) : Prop where
  l1 : ∀ l, c.lo = some l → -N ≤ l
  l2 : ∀ l, c.lo = some l → l ≤ N
  u1 : ∀ l, c.hi = some l → -N ≤ l
  u2 : ∀ l, c.hi = some l → l ≤ N
  s1 : -N ≤ c.s
  s2 : c.s ≤ N
/-- forms that do the same to all from -(2 N + 1) to 2 N + 1 are the same -/
theorem form_at {a b : Cl} {N : Int} (ha : a.isForm) (hb : b.isForm) (wa : a.within N) (wb : b.within N) (h : ∀ x, -(2 * N + 1) ≤ x → x ≤ 2 * N + 1 → a.act x = b.act x) : a = b := by
  have hN : 0 ≤ N := by have := wa.s1; have := wa.s2; omega
  have t1 := act_top (X := 2 * N + 1) wa.l2 wa.u2 wa.s1 (Int.le_refl _)
  have t2 := act_top (X := 2 * N + 1) wb.l2 wb.u2 wb.s1 (Int.le_refl _)
  have b1 := act_bot (X := -(2 * N + 1)) wa.l1 wa.u1 wa.s2 (Int.le_refl _)
  have b2 := act_bot (X := -(2 * N + 1)) wb.l1 wb.u1 wb.s2 (Int.le_refl _)
  have ht := h (2 * N + 1) (by omega) (by omega)
  have hbm := h (-(2 * N + 1)) (by omega) (by omega)
  rw [t1, t2] at ht
  rw [b1, b2] at hbm
  obtain ⟨la, sa, ua⟩ := a
  obtain ⟨lb, sb, ub⟩ := b
  obtain ⟨p1, p2, p3, p4, p5, p6⟩ := wa
  obtain ⟨q1, q2, q3, q4, q5, q6⟩ := wb
  dsimp only at ht hbm p1 p2 p3 p4 p5 p6 q1 q2 q3 q4 q5 q6
  have eu : ua = ub := by
    cases ua with
    | none => cases ub with
      | none => rfl
      | some v => have := q4 v rfl; dsimp only at ht; omega
    | some u => cases ub with
      | none => have := p4 u rfl; dsimp only at ht; omega
      | some v => dsimp only at ht; rw [ht]
  have el : la = lb := by
    cases la with
    | none => cases lb with
      | none => rfl
      | some v => have := q1 v rfl; dsimp only at hbm; omega
    | some u => cases lb with
      | none => have := p1 u rfl; dsimp only at hbm; omega
      | some v => dsimp only at hbm; rw [hbm]
  subst eu el
  have es : sa = sb := by
    cases ua with
    | none => dsimp only at ht; omega
    | some u => cases la with
      | none => dsimp only at hbm; omega
      | some l =>
        have o1 : l ≤ u := ha.1 l u rfl rfl
        by_cases q : l = u
        · subst q
          have e1 : sa = 0 := ha.2 l rfl rfl
          have e2 : sb = 0 := hb.2 l rfl rfl
          omega
        · have a1 := p1 l rfl
          have a2 := p2 l rfl
          have h1 := h (l - sa) (by omega) (by omega)
          have h2 := h (l - sb) (by omega) (by omega)
          simp only [Cl.act, kwI] at h1 h2
          (repeat' split at h1) <;> (repeat' split at h2) <;> omega
  subst es
  rfl
theorem within_max (c : Cl) : ∃ N : Int, 0 ≤ N ∧ ∀ M, N ≤ M → c.within M := by
  obtain ⟨lo, s, hi⟩ := c
  refine ⟨(match lo with | some l => l.natAbs | none => 0 : Nat) + s.natAbs + (match hi with | some l => l.natAbs | none => 0 : Nat), by omega, fun M hM => ?_⟩
  constructor
  · intro l e; dsimp only at e; subst e; dsimp only at hM; omega
  · intro l e; dsimp only at e; subst e; dsimp only at hM; omega
  · intro l e; dsimp only at e; subst e; dsimp only at hM; omega
  · intro l e; dsimp only at e; subst e; dsimp only at hM; omega
  · dsimp only; omega
  · dsimp only; omega
/-- forms that do the same to all are the same -/
theorem form_ext {a b : Cl} (ha : a.isForm) (hb : b.isForm) (h : ∀ x, a.act x = b.act x) : a = b := by
  obtain ⟨N, n0, hN⟩ := within_max a
  obtain ⟨M, m0, hM⟩ := within_max b
  exact form_at (N := N + M) ha hb (hN _ (by omega)) (hM _ (by omega)) fun x _ _ => h x
end PW

namespace PW
open PySem PySem.Spec PyProof.Rows L2
/-! ### kinds, clamps: what the program's defs promise -/
def isListD : PyData → Bool
  | .list _ => true
  | .tuple _ => true
  | _ => false
def isIntD : PyData → Bool
  | .int _ => true
  | _ => false
def isEndD : PyData → Bool
  | .none => true
  | .int _ => true
  | _ => false
/-- the items of a list or a tuple -/
def itemsD : PyData → List PyData
  | .list ds => ds
  | .tuple ds => ds
  | _ => []
/-- a clamp, as a list or as a tuple -/
def IsCl (x : PyData) (c : Cl) : Prop := (x = .list c.ds ∨ x = .tuple c.ds) ∧ c.ok
def pspIsList : PSp := fun dvs O Q => ∃ x, dvs = [.d x] ∧ O = [] ∧ Q (.d (.bool (isListD x))) []
def pspIsInt : PSp := fun dvs O Q => ∃ x, dvs = [.d x] ∧ O = [] ∧ Q (.d (.bool (isIntD x))) []
def pspIsEnd : PSp := fun dvs O Q => ∃ x, dvs = [.d x] ∧ O = [] ∧ Q (.d (.bool (isEndD x))) []
def pspIsClamp : PSp := fun dvs O Q => ∃ x c, dvs = [.d x] ∧ O = [] ∧ IsCl x c ∧ Q (.d (.bool true)) []
def pspCheckClamp : PSp := fun dvs O Q => ∃ x c, dvs = [.d x] ∧ O = [] ∧ IsCl x c ∧ Q (.d .none) []
def pspCheckNumber : PSp := fun dvs O Q => ∃ i, dvs = [.d (.int i)] ∧ O = [] ∧ Q (.d .none) []
def pspKept : PSp := fun dvs O Q => ∃ x lo hi, dvs = [.d (.int x), .d (endD lo), .d (endD hi)] ∧ O = [] ∧ Q (.d (.int (kwI x lo hi))) []
def pspInForm : PSp := fun dvs O Q => ∃ c : Cl, dvs = [.d (endD c.lo), .d (.int c.s), .d (endD c.hi)] ∧ O = [] ∧ Q (.d (.tuple (formC c).ds)) []
def pspFormed : PSp := fun dvs O Q => ∃ x c, dvs = [.d x] ∧ O = [] ∧ IsCl x c ∧ Q (.d (.tuple (formC c).ds)) []
def pspBoth : PSp := fun dvs O Q => ∃ a x b, dvs = [.d (.tuple (Cl.ds a)), .d x] ∧ O = [] ∧ IsCl x b ∧ Q (.d (.tuple (bothC a b).ds)) []
def ClsOf (xs : List PyData) (cs : List Cl) : Prop := Paired IsCl xs cs
def pspAllJoined : PSp := fun dvs O Q => ∃ xs cs, dvs = [.d (.list xs)] ∧ O = [] ∧ ClsOf xs cs ∧ Q (.d (.tuple (joinC cs).ds)) []
def pspJoined : PSp := fun dvs O Q => ∃ xs cs, dvs = [.d (.list xs)] ∧ O = [] ∧ ClsOf xs cs ∧ Q (.d (.tuple (joinC cs).ds)) []
def pspClamped : PSp := fun dvs O Q => ∃ x c i, dvs = [.d x, .d (.int i)] ∧ O = [] ∧ IsCl x c ∧ Q (.d (.int (c.act i))) []
/-- the least and the greatest that a clamp makes into x -/
def shownC (c : Cl) (x : Int) : Option (Option Int × Option Int) := if kwI x c.lo c.hi = x then some (if c.lo = some x then none else some (x - c.s), if c.hi = some x then none else some (x - c.s)) else none
def shownD : Option (Option Int × Option Int) → PyData
  | none => .none
  | some (a, b) => .tuple [endD a, endD b]
def pspShown : PSp := fun dvs O Q => ∃ x c i, dvs = [.d x, .d (.int i)] ∧ O = [] ∧ IsCl x c ∧ Q (.d (shownD (shownC c i))) []
end PW

namespace HN
open PySem L2
/-! ### Book.effect, told over a view of the heap -/
def spBEffectV (C : Addr) : Sp := fun vs H Q _ => ∃ (p : Addr) (k : K3) (B : Bk) (W : Hp), vs = [.ref p, .str k.1, .str k.2.1, .str k.2.2] ∧ Same W H ∧ BookAt C W p B ∧ GoodKey B.states B.sorts k ∧
  ∀ a H', Same H H' → (W a = some (.tup (effV (effOf B.rows k))) ∨ (H a = none ∧ H' a = some (.tup (effV (effOf B.rows k))))) → Q (.ref a) H'
section
variable {P : Program} {w : World} {K : PySem.W.Frag} {mg : Str → Option Value} {base : Heap}
theorem ok_bEffectV {f C fK fI : Addr} {fd fdK fdI : FuncData} (F : Fun K "effect" "Book.effect" sBEffect f fd) (BC : BookC K mg C) (DK : Def K mg "is_key" sIsKey ["thing", "states", "sorts"] fK fdK) (GK : FnOk P w K mg base CX0 2 fK fdK ["thing", "states", "sorts"] (spIsKey K))
    (DI : Def K mg "idle_effect" sIdle ["state"] fI fdI) (GI : FnOk P w K mg base CX0 1 fI fdI ["state"] spIdle) : FnOk P w K mg base CX0 3 f fd ["self", "state", "sort", "age"] (spBEffectV C) := by
  refine F.ok scBEffect (fun vs H Q E h => ?_) (fun cdv A outer s H vs Q E hr h => ?_)
  · obtain ⟨p, kk, B, W, rfl, _⟩ := h
    rfl
  · obtain ⟨p, kk, B, W, rfl, wh, hB, hg, k⟩ := h
    have hu := hu_of hr
    refine ⟨_, pss_cons (ps_set (i := 4) scBEffect.nd rfl (Or.inl rfl) (pe_tup (pa_cons (pv 1) (pa_cons (pv 2) (pa_cons (pv 3) pa_nil)))))
      (pss_cons (ps_if (pt_not (pt_val (pe_call GK hr (by rfl) DK.m DK.F.kp DK.b .nil pass0 (pa_cons (pv 4) (pa_cons (pe_fld (pv 0) rfl) (pa_cons (pe_fld (pv 0) rfl) pa_nil)))))) (pss_one ps_never) pss_nil)
      (pss_one (ps_ret (pe_dget2 hu (pe_fld (pv 0) rfl) (pv 4) (pe_call GI (hr.mono (by decide)) (by rfl) DI.m DI.F.kp DI.b .nil pass0 (pa_cons (pv 1) pa_nil)) ⟨rfl, rfl, rfl, rfl⟩)))), ?_⟩
    refine ⟨_, rfl, _, rfl, _, rfl, by show 3 ≤ sizeLine; decide, fun b hb => ?_⟩
    have s1 := same_new (o := .tup (v3 kk)) hb
    obtain ⟨dx, ls, lt, e, w', tr, hp0, h10, h20, ⟨kvs, hd0, rk⟩, h40⟩ := hB
    have w1 := wh.trans s1
    have hp := w1 _ _ hp0
    refine ⟨_, rfl, _, rfl, p, C, dx, _, .ref ls, rfl, hp, BC.cl, BC.n1, bkF_states .., _, rfl, p, C, dx, _, .ref lt, rfl, hp, BC.cl, BC.n2, bkF_sorts .., b, ls, lt, kk, B.states, B.sorts, rfl, upd_same, SqL.of (w1 _ _ h10), SqL.of (w1 _ _ h20), hg, fun H2 s2 => ⟨_, rfl, ?_⟩⟩
    have hb2 := s2 _ _ (upd_same (H := H) (a := b) (o := .tup (v3 kk)))
    have w2 := w1.trans s2
    have hd := w2 _ _ hd0
    refine ⟨_, rfl, p, C, dx, _, .ref e, rfl, w2 _ _ hp0, BC.cl, BC.n4, bkF_effects .., e, rfl, .inr ⟨_, .inl hd⟩, _, rfl, _, rfl, kk.1, rfl, fun q hq => ?_⟩
    have s3 := same_new (o := .tup (effV (idle kk.1))) hq
    refine ⟨_, DGet.t (k := k3 kk) (s3 _ _ hd) (show _ = some (HO.tup ((k3 kk).map kV)) from s3 _ _ hb2), ?_⟩
    have s03 := (s1.trans s2).trans s3
    unfold effOf at k
    have hv := RowsK.val (k := kk) rk
    cases he : effAt B.rows kk with
    | none =>
      rw [he] at k
      rw [hv.2 he]
      exact k q _ s03 (.inr ⟨(s1.trans s2).free hq, upd_same⟩)
    | some ef =>
      rw [he] at k
      obtain ⟨a, va, ha⟩ := hv.1 ef he
      rw [va]
      exact k a _ s03 (.inl ha)
abbrev psBInit : List Str := ["self", "states", "sorts", "first", "rows", "worths"]
theorem kb_book {f : Addr} {fd : FuncData} (F : FunD K "__init__" "Book.__init__" (defArgs sBInit) (defBody sBInit) (defScope sBInit) [] [("worths", .non)] f fd) : ∃ mv : List Value, KBn K fd psBInit 5 ["worths"] (fun us ws => us ++ ws) (fun vs zs => vs ++ zs) := by
  obtain ⟨mv, h⟩ := F.kbinds0 (ps := psBInit) 5 ["worths"] [] (fun a _ c => a ++ c) (by simp) (fun q h => nomatch h) (fun h1 _ h3 => h1.append h3) (fun D doc pm an cdv ct us mv ws l1 l2 l3 => by
    match us, l1, ws, l3 with
    | [u1, u2, u3, u4, u5], _, [w1], _ => rfl)
  exact ⟨mv, h⟩
end
end HN

namespace HN
open PySem L2
/-! ### told_effects and Book.__init__, the effects' tuples in a view -/
def spToldEffectsV (K : PySem.W.Frag) : Sp := fun vs H Q _ => ∃ (d s t : Addr) (rows : List (K3 × Eff)) (states sorts : List Str) (W : Hp), vs = [.ref d, .ref s, .ref t] ∧ Same W H ∧ (∃ kvs, H d = some (.dT kvs) ∧ RowsK W kvs rows) ∧ SqL K H s (states.map V.str) ∧ SqL K H t (sorts.map V.str) ∧ GoodRows states sorts rows ∧ (∀ z ∈ states, isWord z = true) ∧
  ∀ p H', Same H H' → H p = none → (∃ kvs, H' p = some (.dT kvs) ∧ RowsK W kvs (told rows)) → Q (.ref p) H'
section
variable {P : Program} {w : World} {K : PySem.W.Frag} {mg : Str → Option Value} {base : Heap}
theorem ok_toldEffectsV {f fK fE fI : Addr} {fd fdK fdE fdI : FuncData} (D : Def K mg "told_effects" sToldEffects ["rows", "states", "sorts"] f fd) (T : Txt K mg)
    (DK : Def K mg "is_key" sIsKey ["thing", "states", "sorts"] fK fdK) (GK : FnOk P w K mg base CX0 2 fK fdK ["thing", "states", "sorts"] (spIsKey K))
    (DE : Def K mg "is_effect" sIsEffect ["thing", "states"] fE fdE) (GE : FnOk P w K mg base CX0 4 fE fdE ["thing", "states"] (spIsEffect K))
    (DI : Def K mg "idle_effect" sIdle ["state"] fI fdI) (GI : FnOk P w K mg base CX0 1 fI fdI ["state"] spIdle) : FnOk P w K mg base CX0 5 f fd ["rows", "states", "sorts"] (spToldEffectsV K) := by
  refine D.F.ok scToldE (fun vs H Q E h => ?_) (fun cdv A outer s H vs Q E hr h => ?_)
  · obtain ⟨d, s, t, rows, states, sorts, W, rfl, _⟩ := h
    rfl
  · obtain ⟨d, ls, lt, rows, states, sorts, W, rfl, wh, ⟨kvs, hd, hrk⟩, hs, ht, ⟨nd, hlen, hgood⟩, hz, k⟩ := h
    have hu := hu_of hr
    have hun := hr.units
    have hu0 := Nat.lt_of_le_of_lt (Nat.le_add_right _ 64) hun
    refine ⟨_, pss_cons (ps_if (pt_not (pt_val (pe_callB call_isi (by rfl) T.isi (by decide +kernel) (pa_cons (pv 0) (pa_cons (pe_bltn (v := .ty "dict") (by rfl) T.dict (by decide +kernel) rfl) pa_nil))))) (pss_one ps_never) pss_nil)
      (pss_cons (ps_lock (ps_for PassesOwn.never rfl (pi_keys (pv 0)) (pg_name (i := 3) scToldE.nd rfl (Or.inl rfl))
        (pss_one (ps_if (PW.pt (pw_or (pt_not (pt_val (pe_call GK (hr.mono (by decide)) (by rfl) DK.m DK.F.kp DK.b .nil pass0 (pa_cons (pv 3) (pa_cons (pv 1) (pa_cons (pv 2) pa_nil))))))
          (pw_or1 (pt_not (pt_val (pe_call GE hr (by rfl) DE.m DE.F.kp DE.b .nil pass0 (pa_cons (pe_dget hu (pv 0) (pv 3) (fun _ _ => rfl)) (pa_cons (pv 1) pa_nil)))))))) (pss_one ps_never) pss_nil))))
      (pss_cons (ps_set (i := 4) scToldE.nd rfl (Or.inr rfl) (pe_dt (own := [("key", 3)]) (g := gName 3) (tt := tYes) hu0 rfl scToldE.nd (pi_list (pe_callB (call_sorted3 rfl hun) (by rfl) T.sorted (by decide +kernel) (pa_cons (pv 0) pa_nil)))
        (blkOk_by (N := ["rows", "states", "sorts", "key", "effects"]) (sc := defScope sToldEffects) (by decide +kernel)) (fun _ _ _ _ _ => pg_name (i := 3) scToldE.nd rfl (Or.inl rfl)) (fun _ _ _ _ _ => pts_nil) (fun _ _ _ _ _ => pv 3)
        (fun _ _ _ _ _ => pe_callTy (T := "tuple") (r := rTupOf K) cr_tupOf (by rfl) T.tuple (by decide +kernel) (pa_cons (pe_dget hu (pv 0) (pv 3) (fun _ _ => rfl)) pa_nil))))
      (pss_one (ps_ret (pe_lock (pe_dt (own := [("key", 3)]) (g := gName 3) hu0 rfl scToldE.nd (pi_keys (pv 4))
        (blkOk_by (N := ["rows", "states", "sorts", "key", "effects"]) (sc := defScope sToldEffects) (by decide +kernel)) (fun _ _ _ _ _ => pg_name (i := 3) scToldE.nd rfl (Or.inl rfl))
        (fun _ _ _ _ _ => pts_one (pt_cmpR (r := rNeD K) (op_neD hun) (pe_dget hu (pv 4) (pv 3) (fun _ _ => rfl)) (pe_call GI (hr.mono (by decide)) (by rfl) DI.m DI.F.kp DI.b .nil pass0 (pa_cons (pe_ix (r := rIxT K) ix_tup (pv 3) pe_int (fun _ _ => rfl)) pa_nil)) (nomark _)))
        (fun _ _ _ _ _ => pv 3) (fun _ _ _ _ _ => pe_dget hu (pv 4) (pv 3) (fun _ _ => rfl)))))))), ?_⟩
    refine ⟨_, rfl, _, .ty "dict", _, _, true, rfl, .ty "dict", .base (.dT hd), kit_ty (by decide +kernel), _, rfl, ?_⟩
    -- every row is looked at, the dict locked
    refine ⟨d, _, hd, trivial, fun od => ?_⟩
    have hL : upd H d (.frz od (.dT kvs)) d = some (.frz od (.dT kvs)) := upd_same
    refine ⟨_, rfl, d, od, rfl, .inr ⟨kvs, hL, for_it walk_keysT (fun i σ H' => ∃ kv, σ = [some (.ref d), some (.ref ls), some (.ref lt), kv, none] ∧ Same (upd H d (.frz od (.dT kvs))) H') ⟨none, rfl, Same.refl _⟩ (fun i σ H' _ ⟨_, _, q⟩ => q _ _ hL) (fun i x σ H' H'' hi ⟨kv, hσ, q⟩ ⟨hH, key, v, b, hkv, hx, hb⟩ => ?_) (fun σ H' ⟨kv, hσ, q⟩ => ?_)⟩⟩
    · have hH' := hH.symm
      subst hσ hH' hx
      obtain ⟨row, hrow, ek, a, ev, ha⟩ := RowsK.get hrk hkv
      replace ha := wh _ _ ha
      obtain ⟨gk, ge⟩ := hgood row (List.mem_of_getElem? hrow)
      have ek' : key = k3 row.1 := ek
      subst ek'
      have ev' : v = .ref a := ev
      subst ev'
      have lockd : ∀ b o, H b = some o → b ≠ d → H' b = some o := fun b o e n => q b o (by rw [upd_ne n]; exact e)
      have nls : ∀ {l : Addr} {ws : List Str}, SqL K H l (ws.map V.str) → SqL K H' l (ws.map V.str) := by
        intro l ws hl
        have nd' : ∀ {u}, H l = some u → (∀ kv, u ≠ .dT kv) → l ≠ d := fun e n z => by
          rw [z, hd] at e
          exact n kvs (Option.some.inj e).symm
        rcases hl with (e | ⟨o, e⟩) | e
        · exact .inl (.inl (lockd _ _ e (nd' e fun _ z => nomatch z)))
        · exact .inl (.inr ⟨o, lockd _ _ e (nd' e fun _ z => nomatch z)⟩)
        · exact .inr e
      have ha' : H' a = some (.tup (effV row.2)) := lockd _ _ ha fun z => by
        rw [z, hd] at ha
        cases ha
      refine ⟨_, rfl, _, rfl, _, rfl, b, ls, lt, row.1, states, sorts, rfl, hb, nls hs, nls ht, gk, fun H1 s1 => ⟨_, rfl, ?_⟩⟩
      obtain ⟨a2, va, ha2⟩ := (RowsK.val (k := row.1) hrk).1 row.2 (effAt_mem nd (List.mem_of_getElem? hrow))
      replace ha2 := wh _ _ ha2
      have ha2' : H' a2 = some (.tup (effV row.2)) := lockd _ _ ha2 fun z => by
        rw [z, hd] at ha2
        cases ha2
      refine ⟨_, rfl, _, rfl, d, .ref a2, rfl, .inr ⟨kvs, k3 row.1, b, .inr ⟨od, s1 _ _ (q _ _ hL)⟩, rfl, s1 _ _ hb, va.symm⟩, _, rfl, a2, ls, row.2, states, rfl, s1 _ _ ha2', s1.seq (nls hs), ge, fun H2 s2 => ⟨_, rfl, ?_⟩⟩
      exact ⟨_, rfl, (q.trans s1).trans s2⟩
    -- behind it the dict is as it was
    subst hσ
    refine ⟨q _ _ hL, ?_⟩
    have s2 := same_unlock hd q
    obtain ⟨H2, hH2⟩ : ∃ H2, H2 = upd H' d (.dT kvs) := ⟨_, rfl⟩
    rw [← hH2] at s2 ⊢
    have hd2 := s2 _ _ hd
    refine ⟨_, rfl, d, kvs, rows.map (·.1), rfl, .inl hd2, RowsK.keys hrk, by rw [List.length_map]; omega, fun ps p hps0 hpt hp => ?_⟩
    have hps : ps.map (·.2) = sortK rows := hps0
    obtain ⟨H3, hH3⟩ : ∃ H3, H3 = upd H2 p (.lst (ps.map fun b => V.ref b.1)) := ⟨_, rfl⟩
    have s3 : Same H2 H3 := by rw [hH3]; exact same_new hp
    have hp3 : H3 p = some (.lst (ps.map fun b => V.ref b.1)) := by rw [hH3]; exact upd_same
    rw [← hH3]
    have knd := sortK_nd nd
    have lps : ps.length = (sortK rows).length := by rw [← hps, List.length_map]
    refine ⟨p, rfl, ⟨_, SqL.of hp3⟩, fun D hD => goT_it walk_list (fun i H' => Same H3 H' ∧ ∃ kv', H' D = some (.dT kv') ∧ RowsK W kv' ((sortR rows).take i)) ⟨same_new hD, [], upd_same, by rw [List.take_zero]; exact .nil⟩ (fun i H' _ q => SqL.of (q.1 _ _ hp3)) (fun i x H' H'' hi q y => ?_) (fun H' q => ?_)⟩
    · obtain ⟨hH, hx⟩ := y
      subst hH
      rw [List.getElem?_map] at hx
      rw [List.length_map] at hi
      rw [List.getElem?_eq_getElem hi] at hx
      have hx' : x = V.ref ps[i].1 := (Option.some.inj hx).symm
      subst hx'
      obtain ⟨sq, kv', hD', rk'⟩ := q
      have hbi := hpt ps[i] (List.getElem_mem hi)
      have hki : (sortK rows)[i]? = some ps[i].2 := by
        have z := congrArg (fun l => l[i]?) hps
        simp only [List.getElem?_map, List.getElem?_eq_getElem hi, Option.map_some] at z
        exact z.symm
      obtain ⟨e, he, hmem⟩ := sortK_has nd (List.mem_of_getElem? hki)
      obtain ⟨a, va, haW⟩ := (RowsK.val (k := ps[i].2) hrk).1 e he
      have ha := wh _ _ haW
      have sH := s2.trans (s3.trans sq)
      have hb' := (s3.trans sq) _ _ hbi
      refine ⟨rfl, ?_⟩
      refine ⟨_, rfl, _, rfl, _, rfl, d, .ref a, rfl, DGet.t (sH _ _ hd) hb' |> fun z => va ▸ z, a, effV e, rfl, .inr ⟨SqT.of (sH _ _ ha), ?_⟩⟩
      have er : (sortR rows)[i]? = some (ps[i].2, e) := by
        unfold sortR
        rw [List.getElem?_map, hki, Option.map_some, he]; rfl
      refine ⟨kv', k3 ps[i].2, ps[i].1, rfl, hb', hD', ?_, ?_, ?_⟩
      · rw [RowsK.len rk', List.length_take]
        have : (sortR rows).length = rows.length := by rw [← List.length_map (f := (·.1)), sortR_keys, (sortK_perm rows).length_eq, List.length_map]
        exact Nat.lt_of_le_of_lt (by omega : _ ≤ 100) (by decide)
      · intro b o hbo
        rw [upd_ne (ne_of_none hbo hD)]
        exact sq b o hbo
      · refine ⟨_, upd_same, ?_⟩
        rw [take_more er]
        refine rk'.put ?_ haW
        rw [List.map_take, sortR_keys]
        exact take_nd knd hki
    -- the idle ones are left out
    rw [List.length_map, lps] at q
    obtain ⟨s4, kv', hD', rk'⟩ := q
    have lsr : (sortR rows).length = (sortK rows).length := by rw [← sortR_keys, List.length_map]
    rw [List.take_of_length_le (Nat.le_of_eq lsr)] at rk'
    have sH := s2.trans (s3.trans s4)
    refine ⟨D, _, hD', trivial, fun od2 => ?_⟩
    obtain ⟨H5, hH5⟩ : ∃ H5, H5 = upd H' D (.frz od2 (.dT kv')) := ⟨_, rfl⟩
    have hD5 : H5 D = some (.frz od2 (.dT kv')) := by rw [hH5]; exact upd_same
    rw [← hH5]
    have s5 : ∀ b o, H' b = some o → b ≠ D → H5 b = some o := fun b o e n => by rw [hH5, upd_ne n]; exact e
    have nDrows : ∀ {a : Addr} {xs : List V}, H' a = some (.tup xs) → H5 a = some (.tup xs) := fun e => s5 _ _ e (ne_of e hD' (fun z => nomatch z))
    refine ⟨_, rfl, D, od2, rfl, .inr ⟨kv', hD5, fun D2 hD2 => goT_it walk_keysT (fun i H6 => Same H5 H6 ∧ ∃ kv2, H6 D2 = some (.dT kv2) ∧ RowsK W kv2 (((sortR rows).take i).filter fun p => decide (¬ p.2 = idle p.1.1))) ⟨same_new hD2, [], upd_same, by rw [List.take_zero]; exact .nil⟩ (fun i H6 _ q => q.1 _ _ hD5) (fun i x H6 H7 hi q y => ?_) (fun H6 q => ?_)⟩⟩
    · obtain ⟨hH, key, v, b, hkv, hx, hb⟩ := y
      have hH' := hH.symm
      subst hH' hx
      obtain ⟨s6, kv2, hD26, rk2⟩ := q
      obtain ⟨row, hrow, ek, a, ev, ha⟩ := RowsK.get rk' hkv
      have ek' : key = k3 row.1 := ek
      subst ek'
      have ev' : v = .ref a := ev
      subst ev'
      have nds : ((sortR rows).map (·.1)).Nodup := by rw [sortR_keys]; exact knd
      have hki : (sortK rows)[i]? = some row.1 := by rw [← sortR_keys, List.getElem?_map, hrow]; rfl
      obtain ⟨a1, va, ha1⟩ := (RowsK.val (k := row.1) rk').1 row.2 (effAt_mem nds (List.mem_of_getElem? hrow))
      have ha6 := s6 _ _ (nDrows (sH _ _ (wh _ _ ha1)))
      have wk : isWord row.1.1 = true ∧ isWord row.2.nx = true := by
        obtain ⟨e, he, hm⟩ := sortK_has nd (List.mem_of_getElem? hki)
        have e2 : row.2 = e := by
          have : (sortR rows)[i]? = some (row.1, e) := by
            unfold sortR
            rw [List.getElem?_map, hki, Option.map_some, he]; rfl
          rw [this] at hrow
          exact (congrArg (·.2) (Option.some.inj hrow)).symm
        obtain ⟨g1, g2⟩ := hgood _ hm
        exact ⟨hz _ g1.1, by rw [e2]; exact hz _ g2.1⟩
      have dg : DGet H6 D (.ref b) (some (.ref a1)) := .inr ⟨kv', k3 row.1, b, .inr ⟨od2, s6 _ _ hD5⟩, rfl, hb, va.symm⟩
      refine ⟨rfl, ?_⟩
      refine ⟨_, rfl, _, rfl, D, .ref a1, rfl, dg, _, rfl, b, v3 row.1, 0, .str row.1.1, rfl, rfl, SqT.of hb, rfl, row.1.1, rfl, fun p7 hp7 => ?_⟩
      have s7 := same_new (o := .tup (effV (idle row.1.1))) hp7
      refine ⟨effD row.2, effD (idle row.1.1), dp_eff (SqT.of (s7 _ _ ha6)), dp_eff (SqT.of upd_same), shaped_eff wk.2, shaped_eff wk.1, _, rfl, ?_⟩
      rw [eqv_eff]
      have keep : Same H5 (upd H6 p7 (.tup (effV (idle row.1.1)))) := s6.trans s7
      have hD27 := s7 _ _ hD26
      have rk7 := rk2
      by_cases c : row.2 = idle row.1.1
      · refine iteEF (by simp [c]) ?_
        refine ⟨keep, kv2, hD27, ?_⟩
        rw [take_more hrow, List.filter_append]
        have : ([row].filter fun p : K3 × Eff => decide (¬ p.2 = idle p.1.1)) = [] := by simp [c]
        rw [this, List.append_nil]
        exact rk7
      · refine iteE (by simp [c]) ?_
        refine ⟨_, rfl, _, rfl, _, rfl, D, .ref a1, rfl, .inr ⟨kv', k3 row.1, b, .inr ⟨od2, s7 _ _ (s6 _ _ hD5)⟩, rfl, s7 _ _ hb, va.symm⟩, ?_⟩
        refine ⟨kv2, k3 row.1, b, rfl, s7 _ _ hb, hD27, ?_, ?_, ?_⟩
        · rw [RowsK.len rk7]
          have z1 := List.length_filter_le (fun p : K3 × Eff => decide (¬ p.2 = idle p.1.1)) ((sortR rows).take i)
          have z2 : ((sortR rows).take i).length ≤ (sortR rows).length := by rw [List.length_take]; omega
          have z3 : (sortR rows).length = rows.length := by rw [lsr, (sortK_perm rows).length_eq, List.length_map]
          exact Nat.lt_of_le_of_lt (by omega : _ ≤ 100) (by decide)
        · intro b' o hbo
          rw [upd_ne (ne_of_none hbo hD2)]
          exact keep b' o hbo
        · refine ⟨_, upd_same, ?_⟩
          rw [take_more hrow, List.filter_append]
          have : ([row].filter fun p : K3 × Eff => decide (¬ p.2 = idle p.1.1)) = [row] := by simp [c]
          rw [this]
          refine rk2.put (k := row.1) (e := row.2) ?_ ha1
          · intro hm
            obtain ⟨p', hp', e'⟩ := List.mem_map.mp hm
            have hp2 := (List.mem_filter.mp hp').1
            have : row.1 ∈ (sortK rows).take i := by
              rw [← sortR_keys, ← List.map_take]
              exact List.mem_map.mpr ⟨p', hp2, e'⟩
            exact take_nd knd hki this
    · obtain ⟨s6, kv2, hD26, rk2⟩ := q
      refine ⟨s6 _ _ hD5, ?_⟩
      rw [RowsK.len rk', List.take_length] at rk2
      have s8 := same_unlock hD' (by rw [← hH5]; exact s6)
      have nDD : D2 ≠ D := fun z => by
        rw [z, hD5] at hD2
        cases hD2
      refine k D2 _ (sH.trans s8) ?_ ⟨kv2, by rw [upd_ne nDD]; exact hD26, rk2⟩
      · have n5 : H' D2 = none := by
          rw [hH5, upd_ne nDD] at hD2
          exact hD2
        exact sH.free n5
/-- all that a new book holds is new, but the effects' tuples -/
def NewBook (C : Addr) (W H H' : Hp) (p dx : Addr) (B : Bk) : Prop := ∃ s t e w tr kvs, H' p = some (.ins C dx (bkF s t B.first e w tr)) ∧ (H' s = some (.lst (B.states.map V.str)) ∧ H s = none) ∧ (H' t = some (.lst (B.sorts.map V.str)) ∧ H t = none) ∧ (H' e = some (.dT kvs) ∧ H e = none ∧ RowsK W kvs B.rows) ∧ (WorthsAt H' w B.worths ∧ H w = none)
def spBInitV (K : PySem.W.Frag) (C : Addr) : Sp := fun vs H Q _ => ∃ (p dx ls lt d : Addr) (x : V) (B : Bk) (W : Hp), vs = [.ref p, .ref ls, .ref lt, .str B.first, .ref d, x] ∧ H p = some (.ins C dx []) ∧ W p = none ∧ Same W H ∧ SqL K H ls (B.states.map V.str) ∧ SqL K H lt (B.sorts.map V.str) ∧ (∃ kvs, H d = some (.dT kvs) ∧ RowsK W kvs B.rows) ∧
  ((x = .non ∧ B.worths = []) ∨ ∃ c, x = .ref c ∧ WorthsAt H c B.worths) ∧ GoodBk B ∧ ∀ H', (∀ b o, b ≠ p → H b = some o → H' b = some o) → NewBook C W H H' p dx (toldB B) → Q .non H'
theorem ok_bInitV {f C fL fE fW : Addr} {fd fdL fdE fdW : FuncData} (F : FunD K "__init__" "Book.__init__" (defArgs sBInit) (defBody sBInit) (defScope sBInit) [] [("worths", .non)] f fd) (T : Txt K mg) (BC : BookC K mg C)
    (DL : Def K mg "is_word_list" sIsWordList ["thing", "most"] fL fdL) (GL : FnOk P w K mg base CX0 2 fL fdL ["thing", "most"] (spWordList K))
    (DE : Def K mg "told_effects" sToldEffects ["rows", "states", "sorts"] fE fdE) (GE : FnOk P w K mg base CX0 5 fE fdE ["rows", "states", "sorts"] (spToldEffectsV K))
    (DW : Def K mg "told_worths" sToldWorths ["worths", "states"] fW fdW) (GW : FnOk P w K mg base CX0 3 fW fdW ["worths", "states"] (spToldWorths K)) :
    FnOk P w K mg base CX0 6 f fd ["self", "states", "sorts", "first", "rows", "worths"] (spBInitV K C) := by
  refine F.ok scBInit (fun vs H Q E h => ?_) (fun cdv A outer s H vs Q E hr h => ?_)
  · obtain ⟨p, dx, ls, lt, d, x, B, W, rfl, _⟩ := h
    rfl
  · obtain ⟨p, dx, ls, lt, d, x, ⟨states, sorts, first, rows, worths⟩, W, rfl, hp, wp, wh, hs, ht, ⟨kvd, hd, rkd⟩, hx, ⟨g1, g2, g3, g4, g5⟩, k⟩ := h
    refine ⟨_, PSs.nox (pss_cons (ps_if (pt_not (pt_val (pe_call GL (hr.mono (by decide)) (by rfl) DL.m DL.F.kp DL.b .nil pass0 (pa_cons (pv 1) (pa_cons pe_int pa_nil))))) (pss_one ps_never) pss_nil)
      (pss_cons (ps_if (pt_not (pt_val (pe_call GL (hr.mono (by decide)) (by rfl) DL.m DL.F.kp DL.b .nil pass0 (pa_cons (pv 2) (pa_cons pe_int pa_nil))))) (pss_one ps_never) pss_nil)
      (pss_cons (ps_if (pt_cmpR op_notIn_seq (pv 3) (pv 1) (by rfl)) (pss_one ps_never) pss_nil)
      (pss_cons (ps_fld (pv 0) (pe_callTy call_list_of (by rfl) T.list (by decide +kernel) (pa_cons (pv 1) pa_nil)) rfl)
      (pss_cons (ps_fld (pv 0) (pe_callTy call_list_of (by rfl) T.list (by decide +kernel) (pa_cons (pv 2) pa_nil)) rfl)
      (pss_cons (ps_fld (pv 0) (pv 3) rfl)
      (pss_cons (ps_fld (pv 0) (pe_call GE hr (by rfl) DE.m DE.F.kp DE.b .nil pass0 (pa_cons (pv 4) (pa_cons (pv 1) (pa_cons (pv 2) pa_nil)))) rfl)
      (pss_cons (ps_fld (pv 0) (pe_call GW (hr.mono (by decide)) (by rfl) DW.m DW.F.kp DW.b .nil pass0 (pa_cons (pv 5) (pa_cons (pv 1) pa_nil))) rfl)
      (pss_one (ps_fld (pv 0) (pe_tup (pa_cons (pe_callB cr_sortedS (by rfl) T.sorted (by decide +kernel) (pa_cons (pv 1) pa_nil)) (pa_cons (pe_callB cr_sortedS (by rfl) T.sorted (by decide +kernel) (pa_cons (pv 2) pa_nil))
        (pa_cons (pv 3) (pa_cons (pe_fld (pv 0) rfl) (pa_cons (pe_fld (pv 0) rfl) pa_nil)))))) rfl)))))))))), ?_⟩
    refine ⟨_, rfl, ls, states, 4, rfl, hs, by decide, g1, fun H1 s1 => ⟨_, rfl, ?_⟩⟩
    refine ⟨_, rfl, lt, sorts, 3, rfl, s1.seq ht, by decide, g2, fun H2 s2 => ⟨_, rfl, ?_⟩⟩
    have s02 := s1.trans s2
    have hp2 := s02 _ _ hp
    refine ⟨_, rfl, _, rfl, ls, _, rfl, .inl (s02.seq hs), rfl, flat_strs _, _, rfl, ?_⟩
    have hin : inV (V.str first) (states.map V.str) = true := (inV_str _ _).trans (decide_eq_true g3)
    rw [if_pos rfl]
    refine iteEF (by rw [hin]; rfl) ?_
    -- self._states = list(states)
    refine ⟨_, rfl, ls, _, rfl, .inl (s02.seq hs), fun as has => ⟨_, rfl, p, C, dx, [], rfl, same_new has _ _ hp2, BC.cl, BC.n1, by show 0 < 1000; decide, ?_⟩⟩
    have b3 : But p H (upd (upd H2 as (.lst (states.map V.str))) p (.ins C dx (putF "_states" (.ref as) []))) := (But.of (s02.trans (same_new has))).trans but_put
    have has3 : (upd (upd H2 as (.lst (states.map V.str))) p (.ins C dx (putF "_states" (.ref as) []))) as = some (.lst (states.map V.str)) := by
      rw [upd_ne (ne_of_none hp2 has).symm, upd_same]
    generalize hH3 : upd (upd H2 as (.lst (states.map V.str))) p (.ins C dx (putF "_states" (.ref as) [])) = H3 at b3 has3 ⊢
    have hp3 : H3 p = some (.ins C dx (putF "_states" (.ref as) [])) := by rw [← hH3]; exact upd_same
    -- self._sorts = list(sorts)
    refine ⟨_, rfl, lt, _, rfl, .inl (b3.seqI hp ht), fun at' hat => ⟨_, rfl, p, C, dx, _, rfl, same_new hat _ _ hp3, BC.cl, BC.n2, by show 1 < 1000; decide, ?_⟩⟩
    have b4 : But p H3 (upd (upd H3 at' (.lst (sorts.map V.str))) p (.ins C dx (putF "_sorts" (.ref at') (putF "_states" (.ref as) [])))) := (But.of (same_new hat)).trans but_put
    have hat4 : (upd (upd H3 at' (.lst (sorts.map V.str))) p (.ins C dx (putF "_sorts" (.ref at') (putF "_states" (.ref as) [])))) at' = some (.lst (sorts.map V.str)) := by
      rw [upd_ne (ne_of_none hp3 hat).symm, upd_same]
    generalize hH4 : upd (upd H3 at' (.lst (sorts.map V.str))) p (.ins C dx (putF "_sorts" (.ref at') (putF "_states" (.ref as) []))) = H4 at b4 hat4 ⊢
    have hp4 : H4 p = some (.ins C dx (putF "_sorts" (.ref at') (putF "_states" (.ref as) []))) := by rw [← hH4]; exact upd_same
    -- self._first = first
    refine ⟨_, rfl, _, rfl, p, C, dx, _, rfl, hp4, BC.cl, BC.n3, Nat.lt_of_le_of_lt (Nat.le_trans (putF_len _ _ _) (Nat.succ_le_succ (putF_len _ _ _))) (by decide), ?_⟩
    have b5 : But p H4 (upd H4 p (.ins C dx (putF "_first" (.str first) (putF "_sorts" (.ref at') (putF "_states" (.ref as) []))))) := but_put
    generalize hH5 : upd H4 p (.ins C dx (putF "_first" (.str first) (putF "_sorts" (.ref at') (putF "_states" (.ref as) [])))) = H5 at b5 ⊢
    have hp5 : H5 p = some (.ins C dx (putF "_first" (.str first) (putF "_sorts" (.ref at') (putF "_states" (.ref as) [])))) := by rw [← hH5]; exact upd_same
    have b05 := (b3.trans b4).trans b5
    -- self._effects = told_effects(rows, states, sorts)
    have w5 : Same W H5 := fun b o e => b05 b o (fun z => by rw [z, wp] at e; cases e) (wh b o e)
    refine ⟨_, rfl, _, rfl, _, rfl, d, ls, lt, rows, states, sorts, W, rfl, w5, ⟨kvd, b05 _ _ (ne_of hd hp (fun z => nomatch z)) hd, rkd⟩, b05.seqI hp hs, b05.seqI hp ht, g4, g1.2.2.2, fun ae H6 s6 hae ⟨kve, hre, rke⟩ => ⟨_, rfl, p, C, dx, _, rfl, s6 _ _ hp5, BC.cl, BC.n4, ?_, ?_⟩⟩
    · exact Nat.lt_of_le_of_lt (Nat.le_trans (putF_len _ _ _) (Nat.succ_le_succ (Nat.le_trans (putF_len _ _ _) (Nat.succ_le_succ (putF_len _ _ _))))) (by decide)
    have hp6 := s6 _ _ hp5
    have b7 : But p H6 (upd H6 p (.ins C dx (putF "_effects" (.ref ae) (putF "_first" (.str first) (putF "_sorts" (.ref at') (putF "_states" (.ref as) [])))))) := but_put
    generalize hH7 : upd H6 p (.ins C dx (putF "_effects" (.ref ae) (putF "_first" (.str first) (putF "_sorts" (.ref at') (putF "_states" (.ref as) []))))) = H7 at b7 ⊢
    have hp7 : H7 p = some (.ins C dx (putF "_effects" (.ref ae) (putF "_first" (.str first) (putF "_sorts" (.ref at') (putF "_states" (.ref as) []))))) := by rw [← hH7]; exact upd_same
    have b07 := (b05.trans (But.of s6)).trans b7
    have hre7 := b7 _ _ (ne_of hre hp6 (fun z => nomatch z)) hre
    -- self._worths = told_worths(worths, states)
    have hx7 : (x = .non ∧ worths = []) ∨ ∃ c, x = .ref c ∧ WorthsAt H7 c worths := hx.imp id fun ⟨c, e, h⟩ => ⟨c, e, b07.worthsI hp h⟩
    refine ⟨_, rfl, _, rfl, x, ls, worths, states, rfl, b07.seqI hp hs, g5, hx7, fun aw H8 s8 haw hrw => ⟨_, rfl, p, C, dx, _, rfl, s8 _ _ hp7, BC.cl, BC.n5, ?_, ?_⟩⟩
    · exact Nat.lt_of_le_of_lt (Nat.le_trans (putF_len _ _ _) (Nat.succ_le_succ (Nat.le_trans (putF_len _ _ _) (Nat.succ_le_succ (Nat.le_trans (putF_len _ _ _) (Nat.succ_le_succ (putF_len _ _ _))))))) (by decide)
    have hp8 := s8 _ _ hp7
    have b9 : But p H8 (upd H8 p (.ins C dx (putF "_worths" (.ref aw) (putF "_effects" (.ref ae) (putF "_first" (.str first) (putF "_sorts" (.ref at') (putF "_states" (.ref as) []))))))) := but_put
    generalize hH9 : upd H8 p (.ins C dx (putF "_worths" (.ref aw) (putF "_effects" (.ref ae) (putF "_first" (.str first) (putF "_sorts" (.ref at') (putF "_states" (.ref as) [])))))) = H9 at b9 ⊢
    have hp9 : H9 p = some (.ins C dx (putF "_worths" (.ref aw) (putF "_effects" (.ref ae) (putF "_first" (.str first) (putF "_sorts" (.ref at') (putF "_states" (.ref as) [])))))) := by rw [← hH9]; exact upd_same
    have b09 := (b07.trans (But.of s8)).trans b9
    -- self._traits
    refine ⟨_, rfl, ls, states, rfl, b09.seqI hp hs, ?_, fun ys1 q1 pm1 so1 hq1 => ?_⟩
    · exact Nat.lt_of_le_of_lt g1.2.1 (by decide)
    have s10 := same_new (o := .lst (ys1.map V.str)) hq1
    refine ⟨_, rfl, lt, sorts, rfl, s10.seq (b09.seqI hp ht), ?_, fun ys2 q2 pm2 so2 hq2 => ?_⟩
    · exact Nat.lt_of_le_of_lt g2.2.1 (by decide)
    have s11 := s10.trans (same_new (o := .lst (ys2.map V.str)) hq2)
    have hp11 := s11 _ _ hp9
    have l5 : (putF "_worths" (.ref aw) (putF "_effects" (.ref ae) (putF "_first" (.str first) (putF "_sorts" (.ref at') (putF "_states" (.ref as) []))))).length ≤ 5 :=
      Nat.le_trans (putF_len _ _ _) (Nat.succ_le_succ (Nat.le_trans (putF_len _ _ _) (Nat.succ_le_succ (Nat.le_trans (putF_len _ _ _) (Nat.succ_le_succ (Nat.le_trans (putF_len _ _ _) (Nat.succ_le_succ (putF_len _ _ _))))))))
    refine ⟨_, rfl, _, rfl, p, C, dx, _, .ref ae, rfl, hp11, BC.cl, BC.n4, ?_, _, rfl, p, C, dx, _, .ref aw, rfl, hp11, BC.cl, BC.n5, ?_, by show 5 ≤ sizeLine; decide, fun tr htr => ?_⟩
    · rw [lookup_putF, if_neg (by decide +kernel), lookup_putF, if_pos rfl]
    · rw [lookup_putF, if_pos rfl]
    have s12 := s11.trans (same_new (o := .tup [.ref q1, .ref q2, .str first, .ref ae, .ref aw]) htr)
    have hp12 := s12 _ _ hp9
    refine ⟨_, rfl, p, C, dx, _, rfl, hp12, BC.cl, BC.n6, Nat.lt_of_le_of_lt l5 (by decide), ?_⟩
    have fr : ∀ {H1 H' : Hp} {b : Addr} {u : HO}, But p H1 H' → H' p = some u → H' b = none → H1 b = none := fun {H1 H' b u} bt hu hb => by
      cases q : H1 b with
      | none => rfl
      | some o =>
        by_cases z : b = p
        · rw [z, hu] at hb; cases hb
        · rw [bt b o z q] at hb; cases hb
    refine k _ (fun b o n e => ?_) ⟨as, at', ae, aw, tr, kve, upd_same, ⟨?_, s02.free has⟩, ⟨?_, fr b3 hp3 hat⟩, ⟨?_, fr b05 hp5 hae, rke⟩, ⟨?_, fr b07 hp7 haw⟩⟩
    · exact ((b09.trans (But.of s12)).trans but_put) b o n e
    · have := (((((b4.trans b5).trans (But.of s6)).trans b7).trans (But.of s8)).trans b9).trans (But.of s12) |>.trans (but_put (d := p) (C := C) (dx := dx) (fs := putF "_traits" (.ref tr) (putF "_worths" (.ref aw) (putF "_effects" (.ref ae) (putF "_first" (.str first) (putF "_sorts" (.ref at') (putF "_states" (.ref as) [])))))))
      exact this _ _ (ne_of has3 hp3 (fun z => nomatch z)) has3
    · have := ((((b5.trans (But.of s6)).trans b7).trans (But.of s8)).trans b9).trans (But.of s12) |>.trans (but_put (d := p) (C := C) (dx := dx) (fs := putF "_traits" (.ref tr) (putF "_worths" (.ref aw) (putF "_effects" (.ref ae) (putF "_first" (.str first) (putF "_sorts" (.ref at') (putF "_states" (.ref as) [])))))))
      exact this _ _ (ne_of hat4 hp4 (fun z => nomatch z)) hat4
    · have := ((But.of (d := p) s8).trans b9).trans (But.of s12) |>.trans (but_put (d := p) (C := C) (dx := dx) (fs := putF "_traits" (.ref tr) (putF "_worths" (.ref aw) (putF "_effects" (.ref ae) (putF "_first" (.str first) (putF "_sorts" (.ref at') (putF "_states" (.ref as) [])))))))
      exact this _ _ (ne_of hre7 hp7 (fun z => nomatch z)) hre7
    · have := (b9.trans (But.of s12)).trans (but_put (d := p) (C := C) (dx := dx) (fs := putF "_traits" (.ref tr) (putF "_worths" (.ref aw) (putF "_effects" (.ref ae) (putF "_first" (.str first) (putF "_sorts" (.ref at') (putF "_states" (.ref as) [])))))))
      exact this.worthsI hp8 hrw
end
end HN

namespace PW
open PySem PySem.Spec PyProof.Rows L2
/-! ### books: what the hand layer's promises say of them, over views -/
section
variable {K : PySem.W.Frag} {V V' H H' : Hp}
theorem grown_at {b : Addr} (h : H b = none) : grown V H H' b = H' b := by
  show (match H b with | none => H' b | some _ => V b) = H' b
  rw [h]
/-- an effect, as data -/
theorem dq_eff {a : Addr} {e : HN.Eff} (h : SqT K V a (HN.effV e)) : Dq K V (.ref a) (HN.effD e) := by
  refine .tup h (.cons (.str _) (.cons (.bl _) (.cons (.bl _) (.cons ?_ .nil))))
  cases e.step with
  | none => exact .str _
  | some i => exact .int i
def bookψ (C : Addr) (B : HN.Bk) : Hp → L2.V → Prop := fun V v => ∃ p, v = .ref p ∧ HN.BookAt C V p B
theorem book_mono {C : Addr} {B : HN.Bk} {v : L2.V} (s : Same V V') (h : bookψ C B V v) : bookψ C B V' v := by
  obtain ⟨p, e, h⟩ := h
  exact ⟨p, e, h.same s⟩
end
/-- as lift_of; all that is new goes into the view -/
theorem lift_gr {P : Program} {w : World} {K : PySem.W.Frag} {mg : Str → Option Value} {base : Heap} {k : Nat} {f : Addr} {fd : FuncData} {ps : List Str} {sp : Sp} {psp : PSp} (F : FnOk P w K mg base CX0 k f fd ps sp) (h0 : ∀ dvs O PQ, psp dvs O PQ → O = [])
    (h : ∀ (V H : Hp) (vs : List L2.V) (dvs : List DV) (PQ : QE), Same V H → DVs K [] V vs dvs → psp dvs [] PQ → ∀ (Q : VK) (E : XK),
      (∀ (v : L2.V) (H' : Hp) (dv : DV), Same H H' → DVat K [] (grown V H H') v dv → PQ dv [] → Q v H') → sp vs H Q E) : FnOk P w K mg base CX0 k f fd ps (liftSp K psp) :=
  lift_of F h0 fun V H vs dvs PQ vh d q Q E k => h V H vs dvs PQ vh d q Q E fun v H' dv s dd pq => k v H' (grown V H H') dv s (grown_sv vh) (grown_hw vh s) grown_new dd pq
def pspBSorts (C : Addr) : PSp := fun dvs O Q => ∃ B, dvs = [.x (bookψ C B)] ∧ O = [] ∧ Q (.d (.list (B.sorts.map PyData.str))) []
def pspBFirst (C : Addr) : PSp := fun dvs O Q => ∃ B, dvs = [.x (bookψ C B)] ∧ O = [] ∧ Q (.d (.str B.first)) []
def pspBWorth (C : Addr) : PSp := fun dvs O Q => ∃ B z, dvs = [.x (bookψ C B), .d (.str z)] ∧ O = [] ∧ z ∈ B.states ∧ Q (.d (.int (HN.wOf B.worths z))) []
def pspBEffect (C : Addr) : PSp := fun dvs O Q => ∃ (B : HN.Bk) (k : HN.K3), dvs = [.x (bookψ C B), .d (.str k.1), .d (.str k.2.1), .d (.str k.2.2)] ∧ O = [] ∧ HN.GoodKey B.states B.sorts k ∧ Q (.d (HN.effD (HN.effOf B.rows k))) []
section
variable {P : Program} {w : World} {K : PySem.W.Frag} {mg : Str → Option Value} {base : Heap} {k : Nat} {f C : Addr} {fd : FuncData} {ps : List Str}
theorem lift_bSorts (G : FnOk P w K mg base CX0 k f fd ps (HN.spBSorts C)) : FnOk P w K mg base CX0 k f fd ps (liftSp K (pspBSorts C)) :=
  lift_gr G (fun _ _ _ ⟨_, _, h, _⟩ => h) fun V H vs dvs PQ vh d ⟨B, e, _, q⟩ Q E k => by
    subst e
    cases d with
    | cons d1 d2 =>
      cases d2
      obtain ⟨p, rfl, hB⟩ := d1 V (Same.refl _)
      exact ⟨p, B, rfl, hB.same vh, fun l hl => k _ _ (.d _) (HN.same_new hl) (.lst (by rw [grown_at hl, upd_same]) (DqL.strs _)) q⟩
theorem lift_bFirst (G : FnOk P w K mg base CX0 k f fd ps (HN.spBFirst C)) : FnOk P w K mg base CX0 k f fd ps (liftSp K (pspBFirst C)) :=
  lift_gr G (fun _ _ _ ⟨_, _, h, _⟩ => h) fun V H vs dvs PQ vh d ⟨B, e, _, q⟩ Q E k => by
    subst e
    cases d with
    | cons d1 d2 =>
      cases d2
      obtain ⟨p, rfl, hB⟩ := d1 V (Same.refl _)
      exact ⟨p, B, rfl, hB.same vh, k _ _ (.d _) (Same.refl _) (.str _) q⟩
theorem lift_bWorth (G : FnOk P w K mg base CX0 k f fd ps (HN.spBWorth C)) : FnOk P w K mg base CX0 k f fd ps (liftSp K (pspBWorth C)) :=
  lift_gr G (fun _ _ _ ⟨_, _, _, h, _⟩ => h) fun V H vs dvs PQ vh d ⟨B, z, e, _, hz, q⟩ Q E k => by
    subst e
    cases d with
    | cons d1 d2 =>
      cases d2 with
      | cons d2 d3 =>
        cases d3
        cases d2
        obtain ⟨p, rfl, hB⟩ := d1 V (Same.refl _)
        exact ⟨p, z, B, rfl, hB.same vh, hz, k _ _ (.d _) (Same.refl _) (.int _) q⟩
theorem lift_bEffect (G : FnOk P w K mg base CX0 k f fd ps (HN.spBEffectV C)) : FnOk P w K mg base CX0 k f fd ps (liftSp K (pspBEffect C)) :=
  lift_gr G (fun _ _ _ ⟨_, _, _, h, _⟩ => h) fun V H vs dvs PQ vh d ⟨B, kk, e, _, hz, q⟩ Q E k => by
    subst e
    cases d with
    | cons d1 d2 => cases d2 with
      | cons d2 d3 => cases d3 with
        | cons d3 d4 => cases d4 with
          | cons d4 d5 =>
            cases d5; cases d2; cases d3; cases d4
            obtain ⟨p, rfl, hB⟩ := d1 V (Same.refl _)
            refine ⟨p, kk, B, V, rfl, vh, hB, hz, fun a H' s ha => k _ _ (.d _) s (dq_eff ?_) q⟩
            rcases ha with ha | ⟨h1, h2⟩
            · exact SqT.of (grown_sv vh _ _ ha)
            · exact SqT.of (by rw [grown_at h1]; exact h2)
end
/-! ### a dict of effects by keys, as the laws fill it -/
def effψ (e : HN.Eff) : Hp → L2.V → Prop := fun V v => ∃ a, v = .ref a ∧ V a = some (.tup (HN.effV e))
def rowsO (rows : List (HN.K3 × HN.Eff)) : Ob := .ext fun V H a fs => fs = [a] ∧ ∃ kvs, H a = some (.dT kvs) ∧ HN.RowsK V kvs rows
theorem own_rows {K : PySem.W.Frag} {R : Fr} {S : List Cell} {V H : Hp} {v : L2.V} {i : Nat} {rows : List (HN.K3 × HN.Eff)} (r : Rep K R S V H) (d : DVat K S V v (.o i)) (h : (obs S)[i]? = some (rowsO rows)) :
    ∃ a kvs, v = .ref a ∧ S[i]? = some (a, [a], rowsO rows) ∧ H a = some (.dT kvs) ∧ HN.RowsK V kvs rows := by
  obtain ⟨c, hc, rfl⟩ := d
  obtain ⟨c', hc', ho⟩ := obs_get h
  rw [hc] at hc'; cases hc'
  have h1 := r.own i c hc
  rw [ho] at h1
  obtain ⟨h2, kvs, h3, h4⟩ := h1.2 V H (Same.refl _) r.vh (fun _ _ => rfl)
  obtain ⟨a, fs, o⟩ := c
  dsimp only at h2 h3 ho
  subst h2 ho
  exact ⟨a, kvs, rfl, hc, h3, h4⟩
theorem rows_ext {K : PySem.W.Frag} {V H : Hp} {a : Addr} {kvs : List (List Key × L2.V)} {rows : List (HN.K3 × HN.Eff)} (vh : Same V H) (h : H a = some (.dT kvs)) (r : HN.RowsK V kvs rows) : OwnAt K V H a [a] (rowsO rows) :=
  ⟨fun b hb xs e => (by rw [List.mem_singleton.mp hb, h] at e; cases e), fun V' H' s s' k => ⟨rfl, kvs, by rw [k a (List.mem_singleton_self a)]; exact h, r.same s⟩⟩
section
variable {X : Cx} {R : Fr} {o e i value : Expr} {es : List Expr} {f g h : PTE} {fs : PTA} {pos pos' p : Pos}
/-- {}: rows to be filled -/
def qRNew : PTE := fun _ O Q => Q (.o O.length) (O ++ [rowsO []])
theorem ew_rnew : EW X R (.Dict [] [] pos) qRNew := by
  intro S V H σ Γ Q r sl q
  refine wE_of pe_dnewT fun p hp => ?_
  have vp := r.vnone hp
  have vh : Same V (upd H p (.dT [])) := fun b u z => by rw [upd_ne (ne_of_none z vp)]; exact r.vh b u z
  obtain ⟨r2, e2⟩ := r.newOwn (o := .dT []) (ob := rowsO []) hp (rows_ext vh upd_same .nil)
  refine ⟨_, _, .o S.length, r2, e2, ⟨(p, [p], rowsO []), by rw [List.getElem?_append_right (Nat.le_refl _)]; simp, rfl⟩, ?_⟩
  have ho : obs (S ++ [(p, [p], rowsO [])]) = obs S ++ [rowsO []] := by simp [obs]
  have hl : (obs S).length = S.length := by simp [obs]
  rw [ho, ← hl]
  exact q
/-- (state, holds, rings, step): an effect -/
def qTupE (fs : PTA) : PTE := fun Γ O Q => fs Γ O fun dvs O1 => ∃ e : HN.Eff, dvs = [.d (.str e.nx), .d (.bool e.hold), .d (.bool e.ring), .d (HN.stD e.step)] ∧ Q (.x (effψ e)) O1
theorem ew_tupE {x1} (ha : AW X R es fs) : EW X R (.Tuple es x1 pos) (qTupE fs) := by
  intro S V H σ Γ Q r sl q
  refine wE_of (pe_tup wA_pa) (wA_mono (ha S V H σ Γ _ r sl q) fun vs H1 ⟨S1, V1, dvs, r1, e1, d1, e, h, q1⟩ => ?_)
  subst h
  have hv : vs = HN.effV e := by
    cases d1 with
    | cons a1 t1 => cases t1 with
      | cons a2 t2 => cases t2 with
        | cons a3 t3 => cases t3 with
          | cons a4 t4 =>
            cases t4; cases a1; cases a2; cases a3
            show [_, _, _, _] = [_, _, _, HN.stV e.step]
            have a4' : Dq X.K V1 _ (HN.stD e.step) := a4
            cases q : e.step with
            | none => rw [q] at a4'; cases a4'; rfl
            | some i => rw [q] at a4'; cases a4'; rfl
  refine ⟨by rw [hv]; show 4 ≤ sizeLine; decide, fun p hp => ?_⟩
  obtain ⟨r2, e2⟩ := r1.new (o := .tup vs) hp
  exact PostE.ext (e1.trans e2) (.here r2 (dv := .x (effψ e)) (fun V' s => ⟨p, rfl, s _ _ (by rw [upd_same, hv])⟩) q1)
/-- rows[state, sort, age] = effect; a key that is new -/
def qRPut (f g h : PTE) : PTS := fun PD Γ O => h Γ O fun z O1 => f Γ O1 fun x O2 => g Γ O2 fun y O3 => ∃ n rows k e, x = .o n ∧ O3[n]? = some (rowsO rows) ∧ y = .x (keyψ (HN.k3 k)) ∧ z = .x (effψ e) ∧ rows.length < 100000 ∧ k ∉ rows.map (·.1) ∧ PD.nx Γ (O3.set n (rowsO (rows ++ [(k, e)])))
theorem sw_rput (hu : X.A.units + 65 < cLine) (ho : EW X R o f) (hi : EW X R i g) (hv : EW X R value h) (hs : swapsWith value (some (.Subscript o i pos')) pos.line X.env = pure false := by rfl) : SW X R (.Assign [.Subscript o i pos'] value pos) (qRPut f g h) := by
  intro S V H σ Γ PD D r sl q k
  refine wS_of (ps_dput (by omega) wE_pe wE_pe wE_pe hs) (wE_mono (hv S V H σ Γ _ r sl q) fun v H1 ⟨S1, V1, dz, r1, e1, d1, q1⟩ => wE_mono (ho S1 V1 H1 σ Γ _ r1 (sl.mono e1) q1) fun u H2 ⟨S2, V2, dx, r2, e2, d2, q2⟩ =>
    wE_mono (hi S2 V2 H2 σ Γ _ r2 (sl.mono (e1.trans e2)) q2) fun t H3 ⟨S3, V3, dy, r3, e3, d3, n, rows, kk, e, h1, h2, h4, h5, h6, h7, q3⟩ => ?_)
  subst h1 h4 h5
  obtain ⟨a, kvs, rfl, hc, w1, w2⟩ := own_rows r3 (d2.mono e3) h2
  obtain ⟨b1, rfl, k1⟩ := key_at r3 d3
  obtain ⟨c, rfl, hcv⟩ := (d1.mono (e2.trans e3)) V3 (Same.refl _)
  have va : V3 a = none := (r3.foot n _ hc a (List.mem_singleton_self a)).1
  have vh : Same V3 (upd H3 a (.dT (putK kvs (HN.k3 kk) (.ref c)))) := fun b u z => by rw [upd_ne (ne_of_none z va)]; exact r3.vh b u z
  obtain ⟨r4, e4⟩ := r3.put (o := .dT (putK kvs (HN.k3 kk) (.ref c))) (ob' := rowsO (rows ++ [(kk, e)])) hc (rows_ext vh upd_same (w2.put h7 hcv))
  refine ⟨a, _, rfl, .t w1 k1 (by rw [w2.len]; exact len_line h6), k.nx _ _ ⟨_, _, _, r4, ((e1.trans e2).trans e3).trans e4, sl.mono (((e1.trans e2).trans e3).trans e4), ?_⟩⟩
  rw [obs_set]
  exact q3
end
end PW

namespace PW
open PySem PySem.Spec PyProof.Rows L2
/-! ### Book(..) -/
theorem dqL_strs {K : PySem.W.Frag} {V : Hp} : ∀ {ws : List Str} {vs : List L2.V}, DqL K V vs (ws.map PyData.str) → vs = ws.map L2.V.str
  | [], _, h => by cases h; rfl
  | w :: ws, _, h => by
    cases h with
    | cons h1 h2 =>
      cases h1
      rw [dqL_strs h2]; rfl
theorem dK_worths {K : PySem.W.Frag} {V : Hp} : ∀ {ws : List (Str × Int)} {us : List (Key × L2.V)}, us.map (·.1) = (ws.map fun p => ((.inr p.1, .int p.2) : Key × PyData)).map (·.1) → DqL K V (us.map (·.2)) ((ws.map fun p => ((.inr p.1, .int p.2) : Key × PyData)).map (·.2)) → us = HN.wK ws
  | [], [], _, _ => rfl
  | [], _ :: _, h, _ => by cases h
  | _ :: _, [], h, _ => by cases h
  | w :: ws, (k, u) :: us, h, h2 => by
    have hk := (List.cons.inj h).1
    cases h2 with
    | cons g1 g2 =>
      have ih := dK_worths (List.cons.inj h).2 g2
      have hk' : k = .inr w.1 := hk
      subst hk'
      have g1' : Dq K V u (.int w.2) := g1
      cases g1'
      rw [ih]; rfl
def qBook (C : Addr) (fs : PTA) (g : PTE) : PTE := fun Γ O Q => fs Γ O fun dvs O1 => g Γ O1 fun kv O2 => ∃ (B : HN.Bk) (n : Nat), dvs = [.d (.list (B.states.map PyData.str)), .d (.list (B.sorts.map PyData.str)), .d (.str B.first), .o n] ∧ O2[n]? = some (rowsO B.rows) ∧
  ((kv = .d .none ∧ B.worths = []) ∨ ∃ m, kv = .o m ∧ O2[m]? = some (.dK (B.worths.map fun p => (.inr p.1, .int p.2)))) ∧ HN.GoodBk B ∧ Q (.x (bookψ C (HN.toldB B))) O2
section
variable {X : Cx} {R : Fr} {a b c d e : Expr} {g : PTE} {fs : PTA} {pos p kpos : Pos}
theorem ew_book {C fB : Addr} {fd : FuncData} (M : Mk X.K C fB) (F : FunD X.K "__init__" "Book.__init__" (defArgs HN.sBInit) (defBody HN.sBInit) (defScope HN.sBInit) [] [("worths", .non)] fB fd)
    (G : FnOk X.prog X.w X.K X.mg X.base CX0 6 fB fd HN.psBInit (HN.spBInitV X.K C)) (hr : Room 7 X.A) (mgC : X.mg "Book" = some (.ref C)) (ha : AW X R [a, b, c, d] fs) (hk : EW X R e g) (hg : Gl X "Book" := by rfl)
    (hall : (backToKw pos (keywordEach [⟨some "worths", e, kpos⟩] X.env)).all (·.1.isSome) = true := by rfl) (hks : (backToKw pos (keywordEach [⟨some "worths", e, kpos⟩] X.env)).filterMap (·.1) = (["worths"] : List Str) := by rfl)
    (he : starEach [a, b, c, d] X.env = (false, eval a X.env) :: starEach [b, c, d] X.env := by rfl) (hpl : ((backTo pos (starEach [a, b, c, d] X.env)).any (·.1) || (backToKw pos (keywordEach [⟨some "worths", e, kpos⟩] X.env)).any (·.1.isNone)) = false := by rfl) :
    EW X R (.Call (.Name "Book" p) [a, b, c, d] [⟨some "worths", e, kpos⟩] pos) (qBook C fs g) := by
  obtain ⟨mv, hb⟩ := HN.kb_book F
  intro S V H σ Γ Q r sl q
  refine wE_of (pe_makeK M G hr hg mgC hb pass0 wA_pa (pk_cons wE_pe pk_nil) hall hks (by decide) he hpl) (wA_mono (ha S V H σ Γ _ r sl q) fun vs H1 ⟨S1, V1, dvs, r1, e1, d1, q1⟩ => wE_mono (hk S1 V1 H1 σ Γ _ r1 (sl.mono e1) q1) fun z H2 ⟨S2, V2, kv, r2, e2, d2, B, n, hdv, hrows, hw, gB, q2⟩ => ?_)
  subst hdv
  cases d1 with
  | cons a1 t1 => cases t1 with
    | cons a2 t2 => cases t2 with
      | cons a3 t3 => cases t3 with
        | cons a4 t4 =>
          cases t4
          cases a3
          obtain ⟨p4, kvs, rfl, _, w1, w2⟩ := own_rows r2 (a4.mono e2) hrows
          have a1' := a1.mono e2
          have a2' := a2.mono e2
          cases a1' with
          | @lst p1 xs1 _ h1 h1' =>
            cases a2' with
            | @lst p2 xs2 _ h2 h2' =>
              have hx1 := dqL_strs h1'
              have hx2 := dqL_strs h2'
              subst hx1 hx2
              refine ⟨rfl, rfl, fun x dx hx hdx ndx => ?_⟩
              have s1 := HN.same_new (o := .own x) hdx
              have hx' : (upd H2 dx (.own x)) x = none := by rw [upd_ne (fun z => ndx z.symm)]; exact hx
              have s2 := s1.trans (HN.same_new (o := .ins C dx []) hx')
              have vx : V2 x = none := r2.vnone hx
              refine ⟨x, dx, p1, p2, p4, z, B, V2, rfl, upd_same, vx, r2.vh.trans s2, SqL.of ((r2.vh.trans s2) _ _ h1), SqL.of ((r2.vh.trans s2) _ _ h2), ⟨kvs, s2 _ _ w1, w2⟩, ?_, gB, fun H' b' nb => ⟨rfl, ?_⟩⟩
              · rcases hw with ⟨rfl, hw⟩ | ⟨m, rfl, hm⟩
                · cases d2
                  exact .inl ⟨rfl, hw⟩
                · obtain ⟨c4, us, rfl, _, u1, u2, u3⟩ := own_dK r2 d2 hm
                  have := dK_worths u2 u3
                  subst this
                  exact .inr ⟨c4, rfl, s2 _ _ u1⟩
              · have s' : Same H2 H' := fun b o e => b' b o (fun z => by rw [z, hx] at e; cases e) (s2 _ _ e)
                obtain ⟨r3, e3⟩ := r2.grow s' (grown_sv r2.vh) (grown_hw r2.vh s') grown_new
                obtain ⟨s, t, e', w', tr, kv2, n1, ⟨n2, m2⟩, ⟨n3, m3⟩, ⟨n4, m4, rk⟩, ⟨n5, m5⟩⟩ := nb
                have hB : HN.BookAt C (grown V2 H2 H') x (HN.toldB B) := ⟨dx, s, t, e', w', tr, by rw [grown_at hx]; exact n1, by rw [grown_at (s2.free m2)]; exact n2, by rw [grown_at (s2.free m3)]; exact n3, ⟨kv2, by rw [grown_at (s2.free m4)]; exact n4, rk.same (grown_sv r2.vh)⟩, by
                  show grown V2 H2 H' w' = _
                  rw [grown_at (s2.free m5)]; exact n5⟩
                exact PostE.ext ((e1.trans e2).trans e3) (.here r3 (dv := .x (bookψ C (HN.toldB B))) (fun V' sv => book_mono sv ⟨x, rfl, hB⟩) q2)
end
end PW

namespace HN
open PySem L2
/-! ### Book.table -/
theorem lp_it {J : It} {n : Nat} {G : Hp → Prop} {Y : Nat → Hp → V → Hp → Prop} (w : Walk J n G Y) {g : TG} {tt : TT} {bd : L2.St → Hp → (Hp → Prop) → Prop} {vs : List Nat} {σ : L2.St} {H0 : Hp} {Fin : Hp → Prop} (Pv : Nat → Hp → Prop) (h0 : Pv 0 H0) (hG : ∀ i H, i ≤ n → Pv i H → G H)
    (hs : ∀ i x H H', i < n → Pv i H → Y i H x H' → g x (wipe σ vs) H' fun σ3 H5 => wipe σ3 vs = wipe σ vs ∧ tt σ3 H5 fun b H6 => if b = true then bd σ3 H6 (Pv (i + 1)) else Pv (i + 1) H6) (hd : ∀ H, Pv n H → Fin H) : lpT J g tt bd vs σ Fin H0 := by
  refine ⟨fun i m H => i ≤ n ∧ m = n - i ∧ Pv i H, ⟨_, Nat.zero_le _, rfl, h0⟩, fun i m H ⟨hi, hm, p⟩ => ?_⟩
  have q := hG i H hi p
  rcases Nat.lt_or_ge i n with lt | ge
  · exact Or.inr ⟨w.goes i H lt q, Pv (i + 1), fun H' p' => ⟨n - (i + 1), by omega, lt, rfl, p'⟩, fun x H' y => hs i x H H' lt p (w.yields i H x H' lt q y)⟩
  · obtain rfl : i = n := Nat.le_antisymm hi ge
    exact Or.inl ⟨w.stops H q, hd H p⟩
abbrev sBTable : Stmt := inClass sBook 8
def keysOf (states sorts : List Str) : List K3 := states.flatMap fun s => sorts.flatMap fun t => ages.map fun a => (s, t, a)
def tableOf (B : Bk) : List (K3 × Eff) := (keysOf B.states B.sorts).map fun k => (k, effOf B.rows k)
theorem mem_keysOf {states sorts : List Str} {k : K3} : k ∈ keysOf states sorts ↔ GoodKey states sorts k := by
  obtain ⟨s, t, a⟩ := k
  unfold keysOf GoodKey
  simp only [List.mem_flatMap, List.mem_map, Prod.mk.injEq]
  constructor
  · rintro ⟨_, h1, _, h2, _, h3, rfl, rfl, rfl⟩
    exact ⟨h1, h2, h3⟩
  · rintro ⟨h1, h2, h3⟩
    exact ⟨s, h1, t, h2, a, h3, rfl, rfl, rfl⟩
theorem ages_nd : ages.Nodup := by decide
theorem nodup_flat {α β : Type} {f : α → List β} : ∀ {l : List α}, l.Nodup → (∀ a ∈ l, (f a).Nodup) → (∀ a b, a ≠ b → ∀ x ∈ f a, x ∉ f b) → (l.flatMap f).Nodup
  | [], _, _, _ => List.nodup_nil
  | a :: l, nd, h1, h2 => by
    have nd' := List.nodup_cons.mp nd
    rw [List.flatMap_cons]
    refine List.nodup_append.mpr ⟨h1 a List.mem_cons_self, nodup_flat nd'.2 (fun b hb => h1 b (List.mem_cons_of_mem _ hb)) h2, fun x hx y hy e => ?_⟩
    subst e
    obtain ⟨b, hb, hxb⟩ := List.mem_flatMap.mp hy
    exact h2 a b (fun z => nd'.1 (z ▸ hb)) x hx hxb
theorem keysOf_nd {states sorts : List Str} (h1 : states.Nodup) (h2 : sorts.Nodup) : (keysOf states sorts).Nodup := by
  unfold keysOf
  refine nodup_flat h1 (fun s _ => nodup_flat h2 (fun t _ => ?_) ?_) ?_
  · refine List.Pairwise.map _ (fun a b n e => n (Prod.mk.inj (Prod.mk.inj e).2).2) ages_nd
  · intro a b n x hx hy
    simp only [List.mem_map] at hx hy
    obtain ⟨_, _, rfl⟩ := hx
    obtain ⟨_, _, e⟩ := hy
    exact n (Prod.mk.inj (Prod.mk.inj e).2).1.symm
  · intro a b n x hx hy
    simp only [List.mem_flatMap, List.mem_map] at hx hy
    obtain ⟨_, _, _, _, rfl⟩ := hx
    obtain ⟨_, _, _, _, e⟩ := hy
    exact n (Prod.mk.inj e).1.symm
theorem keysOf_len {states sorts : List Str} : (keysOf states sorts).length = states.length * (sorts.length * 3) := by
  unfold keysOf
  induction states with
  | nil => simp
  | cons s ss ih =>
    rw [List.flatMap_cons, List.length_append, ih]
    have : (sorts.flatMap fun t => ages.map fun a => (s, t, a)).length = sorts.length * 3 := by
      clear ih
      induction sorts with
      | nil => simp
      | cons t ts ih => rw [List.flatMap_cons, List.length_append, ih, List.length_map, List.length_cons]; show 3 + _ = _; omega
    rw [this, List.length_cons, Nat.succ_mul]; omega
theorem flatMap_take_more {α β : Type} {f : α → List β} {l : List α} {i : Nat} {x : α} (h : l[i]? = some x) : (l.take (i + 1)).flatMap f = (l.take i).flatMap f ++ f x := by
  rw [take_more h, List.flatMap_append]
  simp
theorem RowsK.tup {H H' : Hp} (s : ∀ a xs, H a = some (.tup xs) → H' a = some (.tup xs)) {kvs : List (List Key × V)} {rows : List (K3 × Eff)} (r : RowsK H kvs rows) : RowsK H' kvs rows := Paired.mapP r fun p q ⟨h1, a, h2, h3⟩ => ⟨h1, a, h2, s _ _ h3⟩
def spBTableV (C : Addr) : Sp := fun vs H Q _ => ∃ (p : Addr) (B : Bk) (W : Hp), vs = [.ref p] ∧ Same W H ∧ BookAt C W p B ∧ B.states.Nodup ∧ B.sorts.Nodup ∧ B.states.length ≤ 4 ∧ B.sorts.length ≤ 3 ∧
  ∀ d H', Same H H' → H d = none → (∃ kvs, H' d = some (.dT kvs) ∧ RowsK (PW.grown W H H') kvs (tableOf B)) → Q (.ref d) H'
/-- the list of keys that grows -/
def KP (H : Hp) (D : Addr) (ks : List K3) (H' : Hp) : Prop := Same H H' ∧ ∃ bs : List (Addr × K3), H' D = some (.lst (bs.map fun b => V.ref b.1)) ∧ bs.map (·.2) = ks ∧ ∀ b ∈ bs, H' b.1 = some (.tup (v3 b.2))
theorem map_get {α β : Type} {f : α → β} {l : List α} {i : Nat} {x : β} (h : (l.map f)[i]? = some x) : ∃ y, l[i]? = some y ∧ x = f y := by
  rw [List.getElem?_map] at h
  cases q : l[i]? with
  | none => rw [q] at h; cases h
  | some y => rw [q] at h; exact ⟨y, rfl, (Option.some.inj h).symm⟩
theorem flat_len {sorts : List Str} {s : Str} : (sorts.flatMap fun t => ages.map fun a => (s, t, a)).length = sorts.length * 3 := by
  induction sorts with
  | nil => simp
  | cons t ts ih => rw [List.flatMap_cons, List.length_append, ih, List.length_map, List.length_cons]; show 3 + _ = _; omega
theorem keys_len3 {states sorts : List Str} {i j m : Nat} {z t : Str} (l1 : states.length ≤ 4) (l2 : sorts.length ≤ 3) : ((keysOf (states.take i) sorts ++ (sorts.take j).flatMap fun t => ages.map fun a => (z, t, a)) ++ (ages.take m).map fun a => (z, t, a)).length ≤ 48 := by
  rw [List.length_append, List.length_append, keysOf_len, flat_len, List.length_map, List.length_take, List.length_take, List.length_take]
  have h1 : min i states.length * (sorts.length * 3) ≤ 4 * (3 * 3) := Nat.mul_le_mul (Nat.le_trans (Nat.min_le_right _ _) l1) (Nat.mul_le_mul_right 3 l2)
  have h2 : ages.length = 3 := rfl
  omega
theorem KP.step {H H3 : Hp} {D b : Addr} {ks ks' : List K3} {k : K3} (q : KP H D ks H3) (hD : H D = none) (hb : H3 b = none) (len : ks.length ≤ 48) (e : ks' = ks ++ [k]) :
    ∃ acc, (upd H3 b (.tup (v3 k))) D = some (.lst acc) ∧ acc.length < sizeLine ∧ KP H D ks' (upd (upd H3 b (.tup (v3 k))) D (.lst (acc ++ [.ref b]))) := by
  obtain ⟨sq, bs, hDl, hbs, hbt⟩ := q
  have sn := same_new (o := .tup (v3 k)) hb
  have bl : bs.length = ks.length := by rw [← hbs, List.length_map]
  refine ⟨_, sn _ _ hDl, by rw [List.length_map]; exact Nat.lt_of_le_of_lt (by omega : _ ≤ 48) (by decide), ?_, bs ++ [(b, k)], ?_, ?_, ?_⟩
  · intro c o e
    rw [upd_ne (ne_of_none e hD)]
    exact sn _ _ (sq _ _ e)
  · rw [upd_same, List.map_append]; rfl
  · rw [List.map_append, hbs, e]; rfl
  · intro b' hb'
    rcases List.mem_append.mp hb' with h | h
    · have := hbt b' h
      rw [upd_ne (ne_of this hDl (fun z => nomatch z))]
      exact sn _ _ this
    · simp only [List.mem_singleton] at h
      subst h
      rw [upd_ne (ne_of_none hDl hb).symm]
      exact upd_same
section
variable {P : Program} {w : World} {K : PySem.W.Frag} {mg : Str → Option Value} {base : Heap}
theorem scBTable : FnScope ["self", "keys", "state", "sort", "age", "key"] ["self"] (defScope sBTable) := ⟨rfl, rfl, rfl, by decide +kernel, rfl, by decide +kernel, by decide +kernel⟩
theorem ok_bTableV {f C fI : Addr} {fd fdI : FuncData} (F : Fun K "table" "Book.table" sBTable f fd) (BC : BookC K mg C) (Cs : Cons K mg)
    (DI : Def K mg "idle_effect" sIdle ["state"] fI fdI) (GI : FnOk P w K mg base CX0 1 fI fdI ["state"] spIdle) : FnOk P w K mg base CX0 2 f fd ["self"] (spBTableV C) := by
  obtain ⟨aA, mA, sA⟩ := Cs.ag
  refine F.ok scBTable (fun vs H Q E h => ?_) (fun cdv A outer s H vs Q E hr h => ?_)
  · obtain ⟨p, B, W, rfl, _⟩ := h
    rfl
  · obtain ⟨p, B, W, rfl, wh, hB, n1, n2, l1, l2, k⟩ := h
    have hu := hu_of hr
    have hun := hr.units
    have hu0 := Nat.lt_of_le_of_lt (Nat.le_add_right _ 64) hun
    refine ⟨_, pss_cons (ps_setLc3 (i := 1) (own := [("state", 2), ("sort", 3), ("age", 4)]) (vs1 := [3, 4]) (vs2 := [4]) (g := gName 2) (g1 := gName 3) (g2 := gName 4) (tt := tYes) (tt1 := tYes) (tt2 := tYes) (wi1 := iList K (tFld K (tVar 0) "_sorts")) (wi2 := iTup K (tC (.ref aA))) rfl scBTable.nd rfl rfl (sw_true rfl rfl rfl (by decide +kernel)) (pi_list (pe_fld (pv 0) rfl))
        (blkOk_by (N := ["self", "keys", "state", "sort", "age", "key"]) (sc := defScope sBTable) (by decide +kernel)) (by decide) (by decide)
        (fun _ _ _ _ _ => pg_name (i := 2) scBTable.nd rfl (Or.inl rfl)) (fun _ _ _ _ _ => pts_nil)
        (fun _ _ _ _ _ => pi_list (tl := tFld K (tVar 0) "_sorts") (pe_fld (pv 0) rfl)) (fun _ _ _ _ _ => pg_name (i := 3) scBTable.nd rfl (Or.inl rfl)) (fun _ _ _ _ _ => pts_nil)
        (fun _ _ _ _ _ => pi_tup (pe_glob (v := .ref aA) (by rfl) mA rfl)) (fun _ _ _ _ _ => pg_name (i := 4) scBTable.nd rfl (Or.inl rfl)) (fun _ _ _ _ _ => pts_nil)
        (fun _ _ _ _ _ => pe_tup (pa_cons (pv 2) (pa_cons (pv 3) (pa_cons (pv 4) pa_nil)))))
      (pss_one (ps_ret (pe_dt (own := [("key", 5)]) (g := gName 5) (tt := tYes) hu0 rfl scBTable.nd (pi_list (pv 1))
        (blkOk_by (N := ["self", "keys", "state", "sort", "age", "key"]) (sc := defScope sBTable) (by decide +kernel)) (fun _ _ _ _ _ => pg_name (i := 5) scBTable.nd rfl (Or.inl rfl)) (fun _ _ _ _ _ => pts_nil) (fun _ _ _ _ _ => pv 5)
        (fun _ _ _ _ _ => pe_dget2 (td := tFld K (tVar 0) "_effects") (ty := tVar 5) (tx := tCall spIdle [] (fun _ _ _ => False) (tCons (tOp (rIxT K) (tVar 5) (tC (.int 0))) tNil)) hu (pe_fld (pv 0) rfl) (pv 5) (pe_call GI (hr.mono (by decide)) (by rfl) DI.m DI.F.kp DI.b .nil pass0 (pa_cons (pe_ix (r := rIxT K) ix_tup (pv 5) pe_int (fun _ _ => rfl)) pa_nil)) ⟨rfl, rfl, rfl, rfl⟩)))), ?_⟩
    obtain ⟨dx, ls, lt, e, w', tr, hp0, h10, h20, ⟨kvs, hd0, rk⟩, h40⟩ := hB
    have hp := wh _ _ hp0
    have hs := wh _ _ h10
    have ht := wh _ _ h20
    have hd := wh _ _ hd0
    refine ⟨_, rfl, p, C, dx, _, .ref ls, rfl, hp, BC.cl, BC.n1, bkF_states .., ls, rfl, ⟨_, SqL.of hs⟩, fun D hD => ?_⟩
    refine lp_it walk_list (fun i H' => KP H D (keysOf (B.states.take i) B.sorts) H') ⟨same_new hD, [], upd_same, rfl, fun _ h => nomatch h⟩ (fun i H' _ q => SqL.of (q.1 _ _ hs)) (fun i x H' H'' hi q y => ?_) (fun H' q => ?_)
    · obtain ⟨hH, hx⟩ := y
      have hH := hH.symm
      subst hH
      obtain ⟨z, hz, rfl⟩ := map_get hx
      refine ⟨rfl, ?_⟩
      refine ⟨_, rfl, p, C, dx, _, .ref lt, rfl, q.1 _ _ hp, BC.cl, BC.n2, bkF_sorts .., lt, rfl, ⟨_, SqL.of (q.1 _ _ ht)⟩, ?_⟩
      refine lp_it walk_list (fun j H2 => KP H D (keysOf (B.states.take i) B.sorts ++ (B.sorts.take j).flatMap fun t => ages.map fun a => (z, t, a)) H2) (by simpa using q) (fun j H2 _ q => SqL.of (q.1 _ _ ht)) (fun j x H2 H3 hj q2 y => ?_) (fun H2 q2 => ?_)
      · obtain ⟨hH, hx⟩ := y
        have hH := hH.symm
        subst hH
        obtain ⟨t, ht2, rfl⟩ := map_get hx
        refine ⟨rfl, ?_⟩
        refine ⟨aA, rfl, ⟨_, sA _⟩, ?_⟩
        refine lp_it walk_tup (fun m H3 => KP H D ((keysOf (B.states.take i) B.sorts ++ (B.sorts.take j).flatMap fun t => ages.map fun a => (z, t, a)) ++ (ages.take m).map fun a => (z, t, a)) H3) (by simpa using q2) (fun m H3 _ q => sA _) (fun m x H3 H4 hm q3 y => ?_) (fun H3 q3 => ?_)
        · obtain ⟨hH, hx⟩ := y
          have hH := hH.symm
          subst hH
          obtain ⟨a, ha2, rfl⟩ := map_get hx
          refine ⟨rfl, ?_⟩
          refine ⟨_, rfl, _, rfl, _, rfl, by show 3 ≤ sizeLine; decide, fun b hb => ?_⟩
          have len : ((keysOf (B.states.take i) B.sorts ++ (B.sorts.take j).flatMap fun t => ages.map fun a => (z, t, a)) ++ (ages.take m).map fun a => (z, t, a)).length ≤ 48 := keys_len3 l1 l2
          exact q3.step (k := (z, t, a)) (ks' := (keysOf (B.states.take i) B.sorts ++ (B.sorts.take j).flatMap fun t => ages.map fun a => (z, t, a)) ++ (ages.take (m + 1)).map fun a => (z, t, a)) hD hb len (by rw [take_more ha2, List.map_append, ← List.append_assoc]; rfl)
        · rw [List.length_map, List.take_length] at q3
          show KP H D _ H3
          rw [flatMap_take_more ht2, ← List.append_assoc]
          exact q3
      · rw [List.length_map, List.take_length] at q2
        show KP H D _ H2
        unfold keysOf at q2 ⊢
        rw [flatMap_take_more hz]
        exact q2
    -- the dict
    rw [List.length_map, List.take_length] at q
    obtain ⟨s1, bs, hDl, hbs, hbt⟩ := q
    have kl : (keysOf B.states B.sorts).length ≤ 36 := by
      rw [keysOf_len]
      have := Nat.mul_le_mul l1 (Nat.mul_le_mul_right 3 l2)
      omega
    have bl : bs.length = (keysOf B.states B.sorts).length := by rw [← hbs, List.length_map]
    have knd := keysOf_nd n1 n2
    have tk : (tableOf B).map (·.1) = keysOf B.states B.sorts := by
      unfold tableOf
      rw [List.map_map]
      exact (List.map_congr_left (fun _ _ => rfl)).trans (List.map_id _)
    refine ⟨_, rfl, D, rfl, ⟨_, SqL.of hDl⟩, fun D2 hD2 => goT_it walk_list (fun i H6 => (∀ b o, b ≠ D2 → H' b = some o → H6 b = some o) ∧ ∃ kv2, H6 D2 = some (.dT kv2) ∧ RowsK (PW.grown W H H6) kv2 ((tableOf B).take i))
      ⟨fun b o n e' => by rw [upd_ne n]; exact e', [], upd_same, by rw [List.take_zero]; exact .nil⟩ (fun i H6 _ q => SqL.of (q.1 _ _ (ne_of_none hDl hD2) hDl)) (fun i x H6 H7 hi q y => ?_) (fun H6 q => ?_)⟩
    · obtain ⟨hH, hx⟩ := y
      have hH := hH.symm
      subst hH
      obtain ⟨⟨b, kk⟩, hb, rfl⟩ := map_get hx
      obtain ⟨sq, kv2, hD26, rk2⟩ := q
      have s6 : Same H' H6 := fun c o e' => sq c o (ne_of_none e' hD2) e'
      have sH := s1.trans s6
      have hb6 : H6 b = some (.tup (v3 kk)) := s6 _ _ (hbt _ (List.mem_of_getElem? hb))
      have hkk : (keysOf B.states B.sorts)[i]? = some kk := by rw [← hbs, List.getElem?_map, hb]; rfl
      have hrow : (tableOf B)[i]? = some (kk, effOf B.rows kk) := by unfold tableOf; rw [List.getElem?_map, hkk]; rfl
      have hnew : kk ∉ ((tableOf B).take i).map (·.1) := by
        rw [List.map_take, tk]
        exact take_nd knd hkk
      have hl6 : kv2.length < sizeLine := by
        rw [rk2.len, List.length_take]
        have : (tableOf B).length = (keysOf B.states B.sorts).length := by rw [← tk, List.length_map]
        exact Nat.lt_of_le_of_lt (by omega : _ ≤ 36) (by decide)
      have nDH : H D2 = none := by
        cases q : H D2 with
        | none => rfl
        | some o => rw [s1 _ _ q] at hD2; cases hD2
      -- what is kept when the dict has one more
      have fin : ∀ (H8 : Hp) (a : Addr), Same H6 H8 → (W a = some (.tup (effV (effOf B.rows kk))) ∨ (H a = none ∧ H8 a = some (.tup (effV (effOf B.rows kk))))) →
          (∀ c o, c ≠ D2 → H' c = some o → (upd H8 D2 (.dT (putK kv2 (k3 kk) (.ref a)))) c = some o) ∧ ∃ kv3, (upd H8 D2 (.dT (putK kv2 (k3 kk) (.ref a)))) D2 = some (.dT kv3) ∧ RowsK (PW.grown W H (upd H8 D2 (.dT (putK kv2 (k3 kk) (.ref a))))) kv3 ((tableOf B).take (i + 1)) := fun H8 a s8 ha => by
        refine ⟨fun c o n e' => by rw [upd_ne n]; exact s8 _ _ (sq c o n e'), _, upd_same, ?_⟩
        rw [take_more hrow]
        have u : ∀ c xs, PW.grown W H H6 c = some (.tup xs) → PW.grown W H (upd H8 D2 (.dT (putK kv2 (k3 kk) (.ref a)))) c = some (.tup xs) := fun c xs e' => by
          cases q : H c with
          | none =>
            rw [PW.grown_at q] at e' ⊢
            rw [upd_ne (ne_of e' hD26 (fun z => nomatch z))]
            exact s8 _ _ e'
          | some o =>
            unfold PW.grown at e' ⊢
            rw [q] at e' ⊢
            exact e'
        refine (rk2.tup u).put (k := kk) (e := effOf B.rows kk) hnew ?_
        rcases ha with ha | ⟨h1, h2⟩
        · exact PW.grown_sv wh _ _ ha
        · rw [PW.grown_at h1, upd_ne (ne_of h2 (s8 _ _ hD26) (fun z => nomatch z))]
          exact h2
      refine ⟨rfl, ?_⟩
      refine ⟨_, rfl, ?_⟩
      refine ⟨_, rfl, p, C, dx, _, .ref e, rfl, sH _ _ hp, BC.cl, BC.n4, bkF_effects .., e, rfl, .inr ⟨_, .inl (sH _ _ hd)⟩, _, rfl, _, rfl, b, v3 kk, 0, .str kk.1, rfl, rfl, SqT.of hb6, rfl, kk.1, rfl, fun q hq => ?_⟩
      have s3 := same_new (o := .tup (effV (idle kk.1))) hq
      refine ⟨_, DGet.t (k := k3 kk) (s3 _ _ (sH _ _ hd)) (show _ = some (HO.tup ((k3 kk).map kV)) from s3 _ _ hb6), ?_⟩
      have hv := RowsK.val (k := kk) rk
      cases he : effAt B.rows kk with
      | none =>
        rw [hv.2 he]
        refine ⟨kv2, k3 kk, b, rfl, s3 _ _ hb6, s3 _ _ hD26, hl6, ?_⟩
        refine fin _ q s3 (.inr ⟨sH.free hq, ?_⟩)
        unfold effOf
        rw [he]
        exact upd_same
      | some ef =>
        obtain ⟨a, va, ha⟩ := hv.1 ef he
        rw [va]
        refine ⟨kv2, k3 kk, b, rfl, s3 _ _ hb6, s3 _ _ hD26, hl6, ?_⟩
        refine fin _ a s3 (.inl ?_)
        unfold effOf
        rw [he]
        exact ha
    · obtain ⟨sq, kv2, hD26, rk2⟩ := q
      have s6 : Same H' H6 := fun c o e' => sq c o (ne_of_none e' hD2) e'
      rw [List.length_map, bl, show (keysOf B.states B.sorts).length = (tableOf B).length from by rw [← tk, List.length_map], List.take_length] at rk2
      exact k D2 _ (s1.trans s6) (s1.free hD2) ⟨kv2, hD26, rk2⟩
end
end HN

namespace HN
open PySem L2
/-! ### first_standing and Course.__init__ -/
abbrev sCInit : Stmt := inClass sCourse 0
/-- a standing ahead of all letters, new -/
def NewFirst (H H' : Hp) (a : Addr) (first : Str) : Prop := ∃ b, (H' a = some (.tup [.str first, .str "none", .ref b, .bl false]) ∧ H a = none) ∧ (H' b = some (.tup []) ∧ H b = none)
def spFirstV (C : Addr) : Sp := fun vs H Q _ => ∃ (p : Addr) (B : Bk), vs = [.ref p] ∧ BookAt C H p B ∧ ∀ a H', Same H H' → NewFirst H H' a B.first → Q (.ref a) H'
structure CourseC (K : PySem.W.Frag) (C : Addr) : Prop where
  cl : Cls K C
  n1 : NoAttr K C "_first"
  n2 : NoAttr K C "_sorts"
  n3 : NoAttr K C "_effects"
  n4 : NoAttr K C "_moves"
abbrev cF1 (a : Addr) : List (Str × V) := putF "_first" (.ref a) []
abbrev cF2 (a l : Addr) : List (Str × V) := putF "_sorts" (.ref l) (cF1 a)
abbrev cF3 (a l d : Addr) : List (Str × V) := putF "_effects" (.ref d) (cF2 a l)
abbrev cF4 (a l d m : Addr) : List (Str × V) := putF "_moves" (.ref m) (cF3 a l d)
def NewCourse (C : Addr) (W H H' : Hp) (p dx : Addr) (B : Bk) : Prop := ∃ (a l d m : Addr) (ys : List Str) (kvs : List (List Key × V)), H' p = some (.ins C dx (cF4 a l d m)) ∧ NewFirst H H' a B.first ∧ (H' l = some (.lst (ys.map V.str)) ∧ H l = none ∧ ys.Perm B.sorts ∧ PyProof.Rows.sortedS ys = true) ∧ (H' d = some (.dT kvs) ∧ H d = none ∧ RowsK (PW.grown W H H') kvs (tableOf B)) ∧ (H' m = some (.dT []) ∧ H m = none)
def spCInitV (K : PySem.W.Frag) (C Cb : Addr) : Sp := fun vs H Q _ => ∃ (p dx b i : Addr) (B : Bk) (W : Hp), vs = [.ref p, .ref b, .ref i] ∧ H p = some (.ins C dx []) ∧ W p = none ∧ Same W H ∧ BookAt Cb W b B ∧ SqT K H i [] ∧ B.states.Nodup ∧ B.sorts.Nodup ∧ B.states.length ≤ 4 ∧ B.sorts.length ≤ 3 ∧
  ∀ H', (∀ b o, b ≠ p → H b = some o → H' b = some o) → NewCourse C W H H' p dx B → Q .non H'
section
variable {P : Program} {w : World} {K : PySem.W.Frag} {mg : Str → Option Value} {base : Heap}
theorem scFirstStanding : FnScope ["book"] ["book"] (defScope sFirstStanding) := ⟨rfl, rfl, rfl, by decide +kernel, rfl, by decide +kernel, by decide +kernel⟩
theorem ok_firstV {f Cb fF : Addr} {fd fdF : FuncData} (D : Def K mg "first_standing" sFirstStanding ["book"] f fd) (BC : BookC K mg Cb) (mF : Meth K Cb "first" fF) (bF : Binds K fdF ["self"] []) (GF : FnOk P w K mg base CX0 1 fF fdF ["self"] (spBFirst Cb)) : FnOk P w K mg base CX0 2 f fd ["book"] (spFirstV Cb) := by
  refine D.F.ok scFirstStanding (fun vs H Q E h => ?_) (fun cdv A outer s H vs Q E hr h => ?_)
  · obtain ⟨p, B, rfl, _⟩ := h
    rfl
  · obtain ⟨p, B, rfl, hB, k⟩ := h
    obtain ⟨dx, ls, lt, e, w', tr, hp, _⟩ := id hB
    refine ⟨_, pss_one (ps_ret (pe_tup (pa_cons (pe_meth0 (pv 0) BC.cl mF GF hr bF .nil pass0) (pa_cons pe_str (pa_cons (pe_tup pa_nil) (pa_cons pe_bl pa_nil)))))), ?_⟩
    refine ⟨_, rfl, p, dx, _, rfl, hp, bkF_no _ _ _ _ _ _ (by decide +kernel), p, B, rfl, hB, by show 0 ≤ sizeLine; decide, fun b hb => ⟨by show 4 ≤ sizeLine; decide, fun a ha => ?_⟩⟩
    have s1 := same_new (o := .tup []) hb
    have s2 := s1.trans (same_new (o := .tup [.str B.first, .str "none", .ref b, .bl false]) ha)
    refine k a _ s2 ⟨b, ⟨upd_same, s1.free ha⟩, ?_, hb⟩
    exact same_new ha _ _ upd_same
theorem scCInit : FnScope ["self", "book", "idle", "key"] ["self", "book", "idle"] (defScope sCInit) := ⟨rfl, rfl, rfl, by decide +kernel, rfl, by decide +kernel, by decide +kernel⟩
theorem cF_len4 {a l d : Addr} : (cF3 a l d).length ≤ 3 := Nat.le_trans (putF_len _ _ _) (Nat.succ_le_succ (Nat.le_trans (putF_len _ _ _) (Nat.succ_le_succ (putF_len _ _ _))))
theorem ok_cInitV {f C Cb fN fS fT : Addr} {fd fdN fdS fdT : FuncData} {dvs : List V} (F : FunD K "__init__" "Course.__init__" (defArgs sCInit) (defBody sCInit) (defScope sCInit) dvs [] f fd) (T : Txt K mg) (CC : CourseC K C) (BC : BookC K mg Cb)
    (DN : Def K mg "first_standing" sFirstStanding ["book"] fN fdN) (GN : FnOk P w K mg base CX0 2 fN fdN ["book"] (spFirstV Cb))
    (mS : Meth K Cb "sorts" fS) (bS : Binds K fdS ["self"] []) (GS : FnOk P w K mg base CX0 1 fS fdS ["self"] (spBSorts Cb))
    (mT : Meth K Cb "table" fT) (bT : Binds K fdT ["self"] []) (GT : FnOk P w K mg base CX0 2 fT fdT ["self"] (spBTableV Cb)) : FnOk P w K mg base CX0 3 f fd ["self", "book", "idle"] (spCInitV K C Cb) := by
  refine F.ok scCInit (fun vs H Q E h => ?_) (fun cdv A outer s H vs Q E hr h => ?_)
  · obtain ⟨p, dx, b, i, B, W, rfl, _⟩ := h
    rfl
  · obtain ⟨p, dx, b, i, B, W, rfl, hp, wp, wh, hB, hi, n1, n2, l1, l2, k⟩ := h
    refine ⟨_, PSs.nox (pss_cons (ps_fld (pv 0) (pe_call GN hr (by rfl) DN.m DN.F.kp DN.b .nil pass0 (pa_cons (pv 1) pa_nil)) rfl)
      (pss_cons (ps_fld (pv 0) (pe_callB cr_sortedS (by rfl) T.sorted (by decide +kernel) (pa_cons (pe_meth0 (pv 1) BC.cl mS GS (hr.mono (by decide)) bS .nil pass0) pa_nil)) rfl)
      (pss_cons (ps_fld (pv 0) (pe_meth0 (pv 1) BC.cl mT GT hr bT .nil pass0) rfl)
      (pss_cons (ps_for PassesOwn.never rfl (pi_tup (pv 2)) (pg_name (i := 3) scCInit.nd rfl (Or.inl rfl)) (pss_one ps_never))
      (pss_one (ps_fld (pv 0) pe_dnewT rfl)))))), ?_⟩
    obtain ⟨dxb, ls, lt, e, w', tr, hb0, h10, h20, hr0, h40⟩ := id hB
    have fr : ∀ {H1 H' : Hp} {b : Addr} {u : HO}, But p H1 H' → H' p = some u → H' b = none → H1 b = none := fun {H1 H' b u} bt hu hb => by
      cases q : H1 b with
      | none => rfl
      | some o =>
        by_cases z : b = p
        · rw [z, hu] at hb; cases hb
        · rw [bt b o z q] at hb; cases hb
    have toW : ∀ {H' : Hp}, But p H H' → Same W H' := fun {H'} bt c o e' => bt c o (fun z => by rw [z, wp] at e'; cases e') (wh c o e')
    -- self._first
    refine ⟨_, rfl, b, B, rfl, hB.same wh, fun a H1 s1 nf => ⟨_, rfl, p, C, dx, [], rfl, s1 _ _ hp, CC.cl, CC.n1, by show 0 < 1000; decide, ?_⟩⟩
    have b1 : But p H (upd H1 p (.ins C dx (cF1 a))) := (But.of s1).trans but_put
    have nf1 : NewFirst H (upd H1 p (.ins C dx (cF1 a))) a B.first := by
      obtain ⟨b', ⟨h1, h2⟩, h3, h4⟩ := nf
      exact ⟨b', ⟨by rw [upd_ne (ne_of h1 (s1 _ _ hp) (fun z => nomatch z))]; exact h1, h2⟩, by rw [upd_ne (ne_of h3 (s1 _ _ hp) (fun z => nomatch z))]; exact h3, h4⟩
    obtain ⟨H2, hH2⟩ : ∃ H2, H2 = upd H1 p (.ins C dx (cF1 a)) := ⟨_, rfl⟩
    have hp2 : H2 p = some (.ins C dx (cF1 a)) := by rw [hH2]; exact upd_same
    rw [← hH2] at b1 nf1 ⊢
    clear hH2
    -- self._sorts
    have w2 := toW b1
    refine ⟨_, rfl, b, dxb, _, rfl, w2 _ _ hb0, bkF_no _ _ _ _ _ _ (by decide +kernel), b, B, rfl, hB.same w2, fun l0 hl0 => ⟨l0, B.sorts, rfl, SqL.of upd_same, Nat.lt_of_le_of_lt l2 (by decide), fun ys q pm so hq => ?_⟩⟩
    have s2 := (same_new (o := .lst (B.sorts.map V.str)) hl0).trans (same_new (o := .lst (ys.map V.str)) hq)
    refine ⟨_, rfl, p, C, dx, _, rfl, s2 _ _ hp2, CC.cl, CC.n2, by show (cF1 a).length < 1000; exact Nat.lt_of_le_of_lt (putF_len _ _ _) (by decide), ?_⟩
    obtain ⟨H3, hH3⟩ : ∃ H3, H3 = upd (upd (upd H2 l0 (.lst (B.sorts.map V.str))) q (.lst (ys.map V.str))) p (.ins C dx (cF2 a q)) := ⟨_, rfl⟩
    have hp3 : H3 p = some (.ins C dx (cF2 a q)) := by rw [hH3]; exact upd_same
    have hq3 : H3 q = some (.lst (ys.map V.str)) := by
      rw [hH3, upd_ne (fun z => by rw [z] at hq; rw [same_new hl0 _ _ hp2] at hq; cases hq)]
      exact upd_same
    have b3 : But p H2 H3 := by rw [hH3]; exact (But.of s2).trans but_put
    have hq0 : H q = none := fr b1 hp2 ((same_new hl0).free hq)
    rw [← hH3]
    clear hH3
    have b03 := b1.trans b3
    have w3 := toW b03
    -- self._effects
    refine ⟨_, rfl, b, dxb, _, rfl, w3 _ _ hb0, bkF_no _ _ _ _ _ _ (by decide +kernel), b, B, W, rfl, w3, hB, n1, n2, l1, l2, fun d H4 s4 hd ⟨kvs, hdk, rk⟩ => ⟨_, rfl, p, C, dx, _, rfl, s4 _ _ hp3, CC.cl, CC.n3, ?_, ?_⟩⟩
    · exact Nat.lt_of_le_of_lt (Nat.le_trans (putF_len _ _ _) (Nat.succ_le_succ (putF_len _ _ _))) (by decide)
    obtain ⟨H5, hH5⟩ : ∃ H5, H5 = upd H4 p (.ins C dx (cF3 a q d)) := ⟨_, rfl⟩
    have hp4 := s4 _ _ hp3
    have hp5 : H5 p = some (.ins C dx (cF3 a q d)) := by rw [hH5]; exact upd_same
    have b5 : But p H3 H5 := by rw [hH5]; exact (But.of s4).trans but_put
    have hd5 : H5 d = some (.dT kvs) := by rw [hH5, upd_ne (ne_of hdk hp4 (fun z => nomatch z))]; exact hdk
    have hd0 : H d = none := fr b03 hp3 hd
    have b05 := b03.trans b5
    have hup : ∀ c, c ≠ p → H5 c = H4 c := fun c n => by rw [hH5, upd_ne n]
    rw [← hH5]
    -- no key of these is made idle
    have hi5 : SqT K H5 i [] := by
      rcases hi with (h | ⟨o, h⟩) | h
      · exact .inl (.inl (b05 _ _ (ne_of h hp (fun z => by cases z)) h))
      · exact .inl (.inr ⟨o, b05 _ _ (ne_of h hp (fun z => by cases z)) h⟩)
      · exact .inr h
    refine ⟨_, rfl, i, rfl, ⟨_, hi5⟩, for_it walk_tup (fun _ σ H' => σ = [some (.ref p), some (.ref b), some (.ref i), none] ∧ H' = H5) ⟨rfl, rfl⟩ (fun j σ H' _ q => by rw [q.2]; exact hi5) (fun j x σ H' H'' hj _ _ => absurd hj (by simp)) (fun σ H' ⟨e1, e2⟩ => ?_)⟩
    subst e1 e2
    -- self._moves
    refine fun m hm => ⟨_, rfl, p, C, dx, _, rfl, same_new hm _ _ hp5, CC.cl, CC.n4, Nat.lt_of_le_of_lt cF_len4 (by decide), ?_⟩
    have b6 : But p H' (upd (upd H' m (.dT [])) p (.ins C dx (cF4 a q d m))) := (But.of (same_new hm)).trans but_put
    have keep : ∀ {c : Addr} {u : HO}, H' c = some u → (∀ z y, u ≠ .ins C z y) → (upd (upd H' m (.dT [])) p (.ins C dx (cF4 a q d m))) c = some u := fun {c u} h n => b6 _ _ (ne_of h hp5 (fun z => n _ _ z)) h
    have keep3 : ∀ {c : Addr} {u : HO}, H3 c = some u → (∀ z y, u ≠ .ins C z y) → (upd (upd H' m (.dT [])) p (.ins C dx (cF4 a q d m))) c = some u := fun {c u} h n => keep (b5 _ _ (ne_of h hp3 (fun z => n _ _ z)) h) n
    have keep2 : ∀ {c : Addr} {u : HO}, H2 c = some u → (∀ z y, u ≠ .ins C z y) → (upd (upd H' m (.dT [])) p (.ins C dx (cF4 a q d m))) c = some u := fun {c u} h n => keep3 (b3 _ _ (ne_of h hp2 (fun z => n _ _ z)) h) n
    obtain ⟨b', ⟨f1, f2⟩, f3, f4⟩ := nf1
    refine k _ (b05.trans b6) ⟨a, q, d, m, ys, kvs, upd_same, ⟨b', ⟨keep2 f1 (fun _ _ z => nomatch z), f2⟩, keep2 f3 (fun _ _ z => nomatch z), f4⟩, ⟨keep3 hq3 (fun _ _ z => nomatch z), hq0, pm, so⟩, ⟨keep hd5 (fun _ _ z => nomatch z), hd0, ?_⟩, ?_, fr b05 hp5 hm⟩
    · refine rk.tup fun c xs e' => ?_
      cases q3 : H3 c with
      | none =>
        rw [PW.grown_at q3] at e'
        have nc : c ≠ p := ne_of e' hp4 (fun z => nomatch z)
        have h0 : H c = none := fr b03 hp3 q3
        rw [PW.grown_at h0]
        exact keep (by rw [hup c nc]; exact e') (fun _ _ z => nomatch z)
      | some o =>
        have e2 : W c = some (.tup xs) := by
          unfold PW.grown at e'
          rw [q3] at e'
          exact e'
        exact PW.grown_sv wh _ _ e2
    · rw [upd_ne (fun z => by rw [z, hp5] at hm; cases hm)]
      exact upd_same
end
end HN

namespace PW
open PySem PySem.Spec PyProof.Rows L2
/-! ### a dict of effects, as data -/
def kvsT (rows : List (HN.K3 × HN.Eff)) : List (List Key × PyData) := rows.map fun p => (HN.k3 p.1, HN.effD p.2)
theorem rows_dT {K : PySem.W.Frag} {V : Hp} : ∀ {ws : List (List Key × L2.V)} {rows : List (HN.K3 × HN.Eff)}, HN.RowsK V ws rows → ws.map (·.1) = (kvsT rows).map (·.1) ∧ DqL K V (ws.map (·.2)) ((kvsT rows).map (·.2))
  | _, _, .nil => ⟨rfl, .nil⟩
  | _, _, .cons ⟨h1, a, h2, h3⟩ t => by
    obtain ⟨i1, i2⟩ := rows_dT (K := K) t
    refine ⟨?_, ?_⟩
    · exact List.cons_eq_cons.mpr ⟨h1, i1⟩
    · refine .cons ?_ i2
      dsimp only
      rw [h2]
      exact dq_eff (SqT.of h3)
end PW

namespace PW
open PySem PySem.Spec PyProof.Rows L2
/-! ### Course(book) -/
theorem putF_app {f : Str} {v : L2.V} : ∀ {fs : List (Str × L2.V)}, f ∉ fs.map (·.1) → putF f v fs = fs ++ [(f, v)]
  | [], _ => rfl
  | (g, u) :: fs, h => by
    have h1 : ¬ g = f := fun z => h (by rw [z]; exact List.mem_cons_self)
    show (if g = f then (g, v) :: fs else (g, u) :: putF f v fs) = _
    rw [if_neg h1, putF_app (fun z => h (List.mem_cons_of_mem _ z))]
    rfl
theorem cF4_eq {a l d m : Addr} : HN.cF4 a l d m = ([("_first", L2.V.ref a), ("_sorts", L2.V.ref l), ("_effects", L2.V.ref d), ("_moves", L2.V.ref m)] : List (Str × L2.V)) := by
  have e1 : HN.cF1 a = ([("_first", L2.V.ref a)] : List (Str × L2.V)) := rfl
  have e2 : HN.cF2 a l = ([("_first", L2.V.ref a), ("_sorts", L2.V.ref l)] : List (Str × L2.V)) := by
    show putF _ _ (HN.cF1 a) = _
    rw [e1, putF_app (by show ("_sorts" : Str) ∉ (["_first"] : List Str); decide +kernel)]; rfl
  have e3 : HN.cF3 a l d = ([("_first", L2.V.ref a), ("_sorts", L2.V.ref l), ("_effects", L2.V.ref d)] : List (Str × L2.V)) := by
    show putF _ _ (HN.cF2 a l) = _
    rw [e2, putF_app (by show ("_effects" : Str) ∉ ([("_first"), "_sorts"] : List Str); decide +kernel)]; rfl
  show putF _ _ (HN.cF3 a l d) = _
  rw [e3, putF_app (by show ("_moves" : Str) ∉ ([("_first"), "_sorts", "_effects"] : List Str); decide +kernel)]; rfl
/-- the fields of a new course -/
def courseF (K : PySem.W.Frag) (B : HN.Bk) (ys : List Str) : List (Str × DV) := [("_first", .d (.tuple [.str B.first, .str "none", .tuple [], .bool false])), ("_sorts", .d (.list (ys.map PyData.str))), ("_effects", .x (dTψ K (kvsT (HN.tableOf B)))), ("_moves", .x fun _ _ => True)]
def SmallBk (B : HN.Bk) : Prop := B.states.Nodup ∧ B.sorts.Nodup ∧ B.states.length ≤ 4 ∧ B.sorts.length ≤ 3
def qCourse (K : PySem.W.Frag) (C Cb : Addr) (f : PTE) : PTE := fun Γ O Q => f Γ O fun x O1 => ∃ (B : HN.Bk), x = .x (bookψ Cb B) ∧ SmallBk B ∧ ∀ ys, Q (.x (insψ K C (courseF K B ys))) O1
section
variable {X : Cx} {R : Fr} {a : Expr} {f : PTE} {pos p : Pos}
theorem ew_course {C Cb fC : Addr} {fd : FuncData} {e0 : Addr} (M : Mk X.K C fC) (F : FunD X.K "__init__" "Course.__init__" (defArgs HN.sCInit) (defBody HN.sCInit) (defScope HN.sCInit) [.ref e0] [] fC fd) (he0 : ∀ H, SqT X.K H e0 [])
    (G : FnOk X.prog X.w X.K X.mg X.base CX0 3 fC fd ["self", "book", "idle"] (HN.spCInitV X.K C Cb)) (hr : Room 4 X.A) (mgC : X.mg "Course" = some (.ref C)) (ha : EW X R a f) (hg : Gl X "Course" := by rfl)
    (he : starEach [a] X.env = (false, eval a X.env) :: starEach [] X.env := by rfl) (hpl : (backTo pos (starEach [] X.env)).any (·.1) = false := by rfl) : EW X R (.Call (.Name "Course" p) [a] [] pos) (qCourse X.K C Cb f) := by
  obtain ⟨ds, hd, hb⟩ := F.binds1 (ps := ["self", "book", "idle"]) 2 0 (by simp) (by rfl) (fun T kV doc pm an cdv ct us its l1 l2 => by
    match us, l1, its, l2 with
    | [u1, u2], _, [i1], _ => exact ⟨_, rfl, rfl⟩)
  intro S V H σ Γ Q r sl q
  refine wE_of (pe_make M G hr hg mgC hb hd pass0 (pa_cons wE_pe pa_nil he) (by decide) he hpl) (wE_mono (ha S V H σ Γ _ r sl q) fun v H1 ⟨S1, V1, dv, r1, e1, d1, B, hdv, ⟨n1, n2, l1, l2⟩, q1⟩ => ?_)
  subst hdv
  refine fun x dx hx hdx ndx => ?_
  obtain ⟨p1, rfl, hB⟩ := d1 V1 (Same.refl _)
  have s1 := HN.same_new (o := .own x) hdx
  have hx' : (upd H1 dx (.own x)) x = none := by rw [upd_ne (fun z => ndx z.symm)]; exact hx
  have s2 := s1.trans (HN.same_new (o := .ins C dx []) hx')
  have vx : V1 x = none := r1.vnone hx
  refine ⟨x, dx, p1, e0, B, V1, rfl, upd_same, vx, r1.vh.trans s2, hB, he0 _, n1, n2, l1, l2, fun H' b' nc => ⟨rfl, ?_⟩⟩
  have s' : Same H1 H' := fun b o e => b' b o (fun z => by rw [z, hx] at e; cases e) (s2 _ _ e)
  obtain ⟨r3, e3⟩ := r1.grow s' (grown_sv r1.vh) (grown_hw r1.vh s') grown_new
  obtain ⟨a1, l, d, m, ys, kvs, c1, ⟨b1, ⟨f1, f2⟩, f3, f4⟩, ⟨g1, g2, g3, g4⟩, ⟨h1, h2, h3⟩, k1, k2⟩ := nc
  have at' : ∀ {c : Addr} {u : HO}, H' c = some u → (upd (upd H1 dx (.own x)) x (.ins C dx [])) c = none → grown V1 H1 H' c = some u := fun {c u} e n => by
    rw [grown_at (s2.free n)]; exact e
  refine PostE.ext (e1.trans e3) (.here r3 (dv := .x (insψ X.K C (courseF X.K B ys))) (fun V' sv => ?_) (q1 ys))
  refine ins_mono sv ⟨x, dx, _, rfl, by rw [grown_at hx]; exact c1, ?_⟩
  rw [cF4_eq]
  unfold courseF
  refine .cons ⟨rfl, ?_⟩ (.cons ⟨rfl, ?_⟩ (.cons ⟨rfl, ?_⟩ (.cons ⟨rfl, fun _ _ => trivial⟩ .nil)))
  · exact .tup (SqT.of (at' f1 f2)) (.cons (.str _) (.cons (.str _) (.cons (.tup (SqT.of (at' f3 f4)) .nil) (.cons (.bl _) .nil))))
  · exact .lst (at' g1 g2) (DqL.strs _)
  · have hk := (HN.RowsK.tup (H' := grown V1 H1 H') (fun c xs e' => by
      cases qq : (upd (upd H1 dx (.own x)) x (.ins C dx [])) c with
      | none =>
        rw [grown_at qq] at e'
        exact at' e' qq
      | some o =>
        unfold grown at e'
        rw [qq] at e'
        exact grown_sv r1.vh _ _ e') h3)
    obtain ⟨i1, i2⟩ := rows_dT (K := X.K) hk
    exact fun V2 s2' => dT_mono s2' ⟨d, kvs, rfl, at' h1 h2, i1, i2⟩
theorem ew_courseK {K : PySem.W.Frag} {C Cb fC : Addr} {fd : FuncData} {e0 : Addr} (hK : X.K = K) (M : Mk K C fC) (F : FunD K "__init__" "Course.__init__" (defArgs HN.sCInit) (defBody HN.sCInit) (defScope HN.sCInit) [.ref e0] [] fC fd) (he0 : ∀ H, SqT K H e0 [])
    (G : FnOk X.prog X.w K X.mg X.base CX0 3 fC fd ["self", "book", "idle"] (HN.spCInitV K C Cb)) (hr : Room 4 X.A) (mgC : X.mg "Course" = some (.ref C)) (ha : EW X R a f) (hg : Gl X "Course" := by rfl)
    (he : starEach [a] X.env = (false, eval a X.env) :: starEach [] X.env := by rfl) (hpl : (backTo pos (starEach [] X.env)).any (·.1) = false := by rfl) : EW X R (.Call (.Name "Course" p) [a] [] pos) (qCourse K C Cb f) := by
  subst hK
  exact ew_course M F he0 G hr mgC ha hg he hpl
theorem ew_methK {K : PySem.W.Frag} {o e : Expr} {es : List Expr} {g : PTE} {fs : PTA} {apos : Pos} {pl : Sem Bool} {C fa : Addr} {fd : FuncData} {m : Str} {ps : List Str} {k : Nat} {psp : PSp} (hK : X.K = K) (c : Cls K C) (hm : Meth K C m fa) (F : FnOk X.prog X.w K X.mg X.base CX0 k fa fd ps (liftSp K psp)) (hr : Room k X.A) (hb : Binds K fd ps []) (ho : EW X R o g) (ha : AW X R (e :: es) fs)
    (hst : starEach (e :: es) X.env = (false, eval e X.env) :: starEach es X.env := by rfl) (hpl : (backTo pos (starEach es X.env)).any (·.1) = false := by rfl)
    (ht : eval (.Call (.Attribute o m apos) (e :: es) [] pos) X.env = (do
      let ov ← eval o X.env
      standAt apos.atName
      let (f, first) ← holding [ov] (getMethod ov m pl)
      callWith pos f first (backTo pos (starEach (e :: es) X.env)) (backToKw pos (keywordEach [] X.env))) := by rfl) : EW X R (.Call (.Attribute o m apos) (e :: es) [] pos) (qMeth K C m psp g fs) := by
  subst hK
  exact ew_meth c hm F hr hb ho ha hst hpl ht
end
end PW

namespace HN
open PySem L2
/-! ### what telling keeps of a book (as O3, P3, Z3, without their laws) -/
theorem effAt_memQ {rows : List (K3 × Eff)} {k : K3} {e : Eff} (h : effAt rows k = some e) : (k, e) ∈ rows := by
  unfold effAt at h
  cases q : rows.find? fun p => p.1 = k with
  | none => rw [q] at h; cases h
  | some p =>
    rw [q] at h
    have h1 := List.mem_of_find?_eq_some q
    have h2 := List.find?_some q
    simp only [decide_eq_true_eq] at h2
    have h3 : p.2 = e := Option.some.inj h
    obtain ⟨a, b⟩ := p
    dsimp only at h2 h3
    subst h2 h3
    exact h1
theorem wOf_toldQ (ws : List (Str × Int)) (z : Str) (nd : (ws.map (·.1)).Nodup) : wOf (toldW ws) z = wOf ws z := by
  induction ws with
  | nil => rfl
  | cons p ws ih =>
    rw [List.map_cons, List.nodup_cons] at nd
    have ih := ih nd.2
    unfold toldW at ih ⊢
    rw [List.filter_cons]
    by_cases h0 : p.2 = 0
    · rw [if_neg (by simp [h0])]
      rw [ih]
      unfold wOf
      rw [wAt_cons]
      by_cases c : p.1 = z
      · rw [if_pos c, wAt_none (by rw [← c]; exact nd.1), h0]; rfl
      · rw [if_neg c]
    · rw [if_pos (by simp [h0])]
      unfold wOf at ih ⊢
      rw [wAt_cons, wAt_cons]
      by_cases c : p.1 = z
      · rw [if_pos c, if_pos c]
      · rw [if_neg c, if_neg c]; exact ih
theorem sortR_memQ {rows : List (K3 × Eff)} {p : K3 × Eff} (h : p ∈ sortR rows) : p.1 ∈ sortK rows ∧ p.2 = (effAt rows p.1).getD (idle p.1.1) := by
  unfold sortR at h
  obtain ⟨k, hk, e⟩ := List.mem_map.mp h
  subst e
  exact ⟨hk, rfl⟩
theorem told_ndQ {rows : List (K3 × Eff)} (nd : (rows.map (·.1)).Nodup) : ((told rows).map (·.1)).Nodup := by
  have h : ((sortR rows).map (·.1)).Nodup := by rw [sortR_keys]; exact sortK_nd nd
  unfold told
  exact List.Nodup.sublist ((List.filter_sublist).map _) h
theorem effOf_toldQ (rows : List (K3 × Eff)) (k : K3) (nd : (rows.map (·.1)).Nodup) : effOf (told rows) k = effOf rows k := by
  unfold effOf
  cases h : effAt (told rows) k with
  | some e =>
    have m := effAt_memQ h
    unfold told at m
    have m1 := List.mem_filter.mp m
    have m2 := sortR_memQ m1.1
    show e = _
    exact m2.2
  | none =>
    show idle k.1 = _
    cases h2 : effAt rows k with
    | none => rfl
    | some e =>
      show idle k.1 = e
      by_cases c : e = idle k.1
      · exact c.symm
      · exfalso
        have m := effAt_memQ h2
        have hk : k ∈ sortK rows := (sortK_perm rows).mem_iff.mpr (List.mem_map_of_mem (f := (·.1)) m)
        have hs : (k, e) ∈ sortR rows := by
          unfold sortR
          refine List.mem_map.mpr ⟨k, hk, ?_⟩
          rw [h2]; rfl
        have ht : (k, e) ∈ told rows := List.mem_filter.mpr ⟨hs, by simp [c]⟩
        have := effAt_mem (told_ndQ nd) ht
        rw [h] at this; cases this
theorem told_lenQ (rows : List (K3 × Eff)) : (told rows).length ≤ rows.length := by
  unfold told
  refine Nat.le_trans (List.length_filter_le _ _) ?_
  have := congrArg List.length (sortR_keys rows)
  rw [List.length_map] at this
  rw [this]
  exact Nat.le_of_eq ((sortK_perm rows).length_eq.trans (List.length_map ..))
/-- a row that a book tells stands among those it was told -/
theorem told_mem {rows : List (K3 × Eff)} {p : K3 × Eff} (h : p ∈ told rows) : p ∈ rows := by
  obtain ⟨h1, h2⟩ := sortR_memQ (List.mem_filter.mp h).1
  have hk : p.1 ∈ rows.map (·.1) := (sortK_perm rows).mem_iff.mp h1
  cases q : effAt rows p.1 with
  | none =>
    exfalso
    obtain ⟨r, hr, e⟩ := List.mem_map.mp hk
    unfold effAt at q
    rw [Option.map_eq_none_iff] at q
    have := List.find?_eq_none.mp q r hr
    simp [e] at this
  | some e =>
    rw [q] at h2
    have := effAt_memQ q
    have e2 : p.2 = e := h2
    rw [← e2] at this
    exact this
theorem good_told {B : Bk} (g : GoodBk B) : GoodBk (toldB B) := by
  obtain ⟨g1, g2, g3, ⟨n1, n2, n3⟩, ⟨w1, w2, w3⟩⟩ := g
  refine ⟨g1, g2, g3, ⟨told_ndQ n1, Nat.le_trans (told_lenQ _) n2, fun p hp => n3 p (told_mem hp)⟩, ⟨List.Nodup.sublist ((List.filter_sublist).map _) w1, Nat.le_trans (List.length_filter_le _ _) w2, fun p hp => w3 p (List.mem_filter.mp hp).1⟩⟩
end HN

namespace HN
open PySem L2
def isWordM (z : Str) : Bool := isWord z && decide (z ≠ "zz") && decide (z ≠ "other")
/-- as Wds; no word is zz or other -/
def WdsM (most : Nat) (ws : List Str) : Prop := 1 ≤ ws.length ∧ ws.length ≤ most ∧ ws.Nodup ∧ ∀ z ∈ ws, isWordM z = true
theorem WdsM.w {n : Nat} {ws : List Str} (h : WdsM n ws) : Wds n ws := ⟨h.1, h.2.1, h.2.2.1, fun z hz => by
  have := h.2.2.2 z hz
  unfold isWordM at this
  simp only [Bool.and_eq_true] at this
  exact this.1.1⟩
theorem WdsM.no {n : Nat} {ws : List Str} (h : WdsM n ws) : ("zz" : Str) ∉ ws ∧ ("other" : Str) ∉ ws := by
  refine ⟨fun hz => ?_, fun hz => ?_⟩
  · have := h.2.2.2 _ hz
    unfold isWordM at this
    simp at this
  · have := h.2.2.2 _ hz
    unfold isWordM at this
    simp at this
def GoodBkM (B : Bk) : Prop := WdsM 4 B.states ∧ WdsM 3 B.sorts ∧ B.first ∈ B.states ∧ GoodRows B.states B.sorts B.rows ∧ GoodWorths B.states B.worths
theorem GoodBkM.good {B : Bk} (h : GoodBkM B) : GoodBk B := ⟨h.1.w, h.2.1.w, h.2.2.1, h.2.2.2.1, h.2.2.2.2⟩
def menu : List Str := ["none", "new", "read", "gone", "x", "longword", "seen", "b"]
theorem menu_words : ∀ z ∈ menu, isWordM z = true := by decide +kernel
theorem menu_nd : menu.Nodup := by decide +kernel
def spWords : Sp := fun vs H Q _ => ∃ (d : Addr) (m : Nat), vs = [.ref d, .int (m : Nat)] ∧ Dr H d ∧ 1 ≤ m ∧ m ≤ 4 ∧ ∀ p ws H', Dr H' d → But d H H' → H p = none → H' p = some (.lst (ws.map V.str)) → WdsM 4 ws → Q (.ref p) H'
theorem erase_map {α β : Type} (g : α → β) : ∀ (l : List α) (j : Nat), (l.map g).eraseIdx j = (l.eraseIdx j).map g
  | [], _ => rfl
  | _ :: _, 0 => rfl
  | x :: l, j + 1 => by
    show g x :: (l.map g).eraseIdx j = g x :: (l.eraseIdx j).map g
    rw [erase_map g l j]
theorem cons_erase {α : Type} : ∀ (l : List α) (j : Nat) (h : j < l.length), (l[j] :: l.eraseIdx j).Perm l
  | [], _, h => absurd h (Nat.not_lt_zero _)
  | _ :: _, 0, _ => List.Perm.refl _
  | x :: l, j + 1, h => by
    have h' : j < l.length := Nat.lt_of_succ_lt_succ h
    exact (List.Perm.swap x l[j] (l.eraseIdx j)).trans ((cons_erase l j h').cons x)
theorem dr_ne {H : Hp} {d p : Addr} (h : Dr H d) (hp : H p = none) : p ≠ d := fun z => by
  obtain ⟨a, b, c, e⟩ := h
  rw [z, e] at hp; cases hp
theorem Dr.same {H H' : Hp} {d : Addr} (h : Dr H d) (s : Same H H') : Dr H' d := let ⟨a, b, c, e⟩ := h; ⟨a, b, c, s _ _ e⟩
section
variable {P : Program} {w : World} {K : PySem.W.Frag} {mg : Str → Option Value} {base : Heap}
theorem scWords : FnScope ["_law_draws", "_law_many", "_law_menu", "_law_found", "_law_k"] ["_law_draws", "_law_many"] (defScope sWords) := ⟨rfl, rfl, rfl, by decide +kernel, rfl, by decide +kernel, by decide +kernel⟩
theorem ok_words {f fD : Addr} {fd fdD : FuncData} (D : Def K mg "_law_drawn_words" sWords ["_law_draws", "_law_many"] f fd) (T : Txt K mg) (DD : Def K mg "_law_draw" sDraw ["_law_draws", "_law_many"] fD fdD) (GD : FnOk P w K mg base CX0 1 fD fdD ["_law_draws", "_law_many"] spDraw) :
    FnOk P w K mg base CX0 2 f fd ["_law_draws", "_law_many"] spWords := by
  refine D.F.ok scWords (fun vs H Q E h => ?_) (fun cdv A outer s H vs Q E hr h => ?_)
  · obtain ⟨d, m, rfl, _⟩ := h
    rfl
  · obtain ⟨d, m, rfl, hd, h1, h4, k⟩ := h
    refine ⟨_, pss_cons (ps_set (i := 2) scWords.nd rfl (Or.inl rfl) (pe_lst (pa_cons pe_str (pa_cons pe_str (pa_cons pe_str (pa_cons pe_str (pa_cons pe_str (pa_cons pe_str (pa_cons pe_str (pa_cons pe_str pa_nil))))))))))
      (pss_cons (ps_set (i := 3) scWords.nd rfl (Or.inl rfl) (pe_lst pa_nil))
      (pss_cons (ps_for PassesOwn.never rfl (pi_range1 rfl T.range (pa_cons (pv 1) pa_nil)) (pg_name (i := 4) scWords.nd rfl (Or.inl rfl))
        (pss_one (ps_expr (pe_bm PySem.F.plainAttrs_list PySem.F.slot_list_append PySem.F.type_list_append mt_append (pv 3) (pa_cons
          (pe_bm PySem.F.plainAttrs_list PySem.F.slot_list_pop PySem.F.type_list_pop mt_popAt (pv 2) (pa_cons (pe_call GD hr (by rfl) DD.m DD.F.kp DD.b .nil pass0 (pa_cons (pv 0) (pa_cons (pe_callB call_len_seq (by rfl) T.len PySem.boot_len (pa_cons (pv 2) pa_nil)) pa_nil))) pa_nil)) pa_nil)))))
      (pss_one (ps_ret (pv 3))))), ?_⟩
    refine ⟨by show 8 ≤ sizeLine; decide, fun me hme => ⟨Nat.zero_le _, fun fo hfo => ?_⟩⟩
    have s2 := (same_new (o := .lst (menu.map V.str)) hme).trans (same_new (o := .lst []) hfo)
    have nme : me ≠ fo := fun z => by rw [z, upd_same] at hfo; cases hfo
    have e1 : (upd (upd H me (.lst (menu.map V.str))) fo (.lst [])) me = some (.lst (menu.map V.str)) := by rw [upd_ne nme, upd_same]
    have e2 : (upd (upd H me (.lst (menu.map V.str))) fo (.lst [])) fo = some (.lst []) := upd_same
    have e1' : (upd (upd H me (.lst [.str "none", .str "new", .str "read", .str "gone", .str "x", .str "longword", .str "seen", .str "b"])) fo (.lst [])) me = some (.lst (menu.map V.str)) := e1
    have hfo0 : H fo = none := by rw [upd_ne nme.symm] at hfo; exact hfo
    have nmd := dr_ne hd hme
    have nfd := dr_ne hd hfo0
    refine ⟨_, rfl, (m : Nat), rfl, by omega, by omega, for_range (lo := 0) (n := m) (fun i σ H' => ∃ (kv : Option V) (ms ws : List Str), σ = [some (.ref d), some (.int (m : Nat)), some (.ref me), some (.ref fo), kv] ∧ Dr H' d ∧ But d H H' ∧ H' me = some (.lst (ms.map V.str)) ∧ H' fo = some (.lst (ws.map V.str)) ∧ (ws ++ ms).Perm menu ∧ ws.length = i)
      ⟨none, menu, [], rfl, hd.same s2, But.of s2, e1', upd_same, List.Perm.refl _, rfl⟩ (fun i σ H' hi ⟨kv, ms, ws, hσ, hd', b', hme', hfo', pm, hl⟩ => ?_) (fun σ H' ⟨kv, ms, ws, hσ, hd', b', hme', hfo', pm, hl⟩ => ?_)⟩
    · subst hσ
      have lms : 1 ≤ ms.length ∧ ms.length ≤ 8 := by
        have := pm.length_eq
        rw [List.length_append] at this
        have e8 : menu.length = 8 := rfl
        omega
      refine ⟨_, rfl, .inl ⟨rfl, _, SqL.of hfo'⟩, ?_⟩
      refine ⟨_, rfl, .inl ⟨rfl, _, SqL.of hme'⟩, ?_⟩
      refine ⟨_, rfl, _, rfl, me, _, rfl, .inl (SqL.of hme'), d, _, rfl, hd', by rw [List.length_map]; omega, by rw [List.length_map]; omega, fun r H1 r0 r1 hd1 b1 => ?_⟩
      rw [List.length_map] at r1
      obtain ⟨j, rfl⟩ : ∃ j : Nat, r = (j : Int) := ⟨r.toNat, (Int.toNat_of_nonneg r0).symm⟩
      have hj : j < ms.length := by omega
      have hme1 := b1 _ _ nmd hme'
      have hfo1 := b1 _ _ nfd hfo'
      refine ⟨me, _, _, j, .str ms[j], rfl, rfl, hme1, by omega, by omega, ?_, ?_, ?_⟩
      · unfold seqIndex?
        rw [List.length_map]
        have z : ¬ ((j : Int) < 0) := by omega
        rw [if_neg z, if_pos (by simp; omega)]; simp
      · rw [List.getElem?_map, List.getElem?_eq_getElem hj]; rfl
      have b2 : But me H1 (upd H1 me (.lst ((ms.map V.str).eraseIdx j))) := But.upd
      refine ⟨fo, _, _, rfl, rfl, b2 _ _ nme.symm hfo1, ?_, ?_⟩
      · rw [List.length_map]; exact Nat.lt_of_le_of_lt (by omega : _ ≤ 4) (by decide)
      refine ⟨_, ms.eraseIdx j, ws ++ [ms[j]], rfl, ?_, ?_, ?_, ?_, ?_, ?_⟩
      · obtain ⟨a, b, c, e⟩ := hd1
        exact ⟨a, b, c, by rw [upd_ne nfd.symm, upd_ne nmd.symm]; exact e⟩
      · intro b o n e
        rw [upd_ne (ne_of_none e hfo0), upd_ne (ne_of_none e hme)]
        exact (b'.trans b1) b o n e
      · rw [upd_ne nme, upd_same]
        congr 2
        exact erase_map _ _ _
      · rw [upd_same, List.map_append]; rfl
      · have : (ms[j] :: ms.eraseIdx j).Perm ms := cons_erase ms j hj
        rw [List.append_assoc]
        exact ((List.Perm.append_left ws this)).trans pm
      · rw [List.length_append]; simp; omega
    · subst hσ
      refine ⟨_, rfl, ?_⟩
      have nd : (ws ++ ms).Nodup := pm.nodup_iff.mpr menu_nd
      exact k fo ws H' hd' b' hfo0 hfo' ⟨by omega, by omega, (List.nodup_append.mp nd).1, fun z hz => menu_words z (pm.mem_iff.mp (List.mem_append_left _ hz))⟩
end
end HN
namespace HN
open PySem L2
def GoodSteps (l : List (Option Int)) : Prop := 1 ≤ l.length ∧ l.length ≤ 10 ∧ ∀ s ∈ l, ∀ i, s = some i → -9 ≤ i ∧ i ≤ 9
def spEffect (K : PySem.W.Frag) : Sp := fun vs H Q _ => ∃ (d ls lp : Addr) (states : List Str) (steps : List (Option Int)), vs = [.ref d, .ref ls, .ref lp] ∧ Dr H d ∧ SqL K H ls (states.map V.str) ∧ SqL K H lp (steps.map stV) ∧ ls ≠ d ∧ lp ≠ d ∧ 1 ≤ states.length ∧ states.length ≤ 10 ∧ GoodSteps steps ∧
  ∀ p e H', Dr H' d → But d H H' → H p = none → H' p = some (.tup (effV e)) → GoodEff states e → Q (.ref p) H'
def spSteps : Sp := fun vs H Q _ => ∃ (d : Addr), vs = [.ref d] ∧ Dr H d ∧ ∀ p steps H', Dr H' d → But d H H' → H p = none → H' p = some (.lst (steps.map stV)) → GoodSteps steps → Q (.ref p) H'
theorem But.free {d : Addr} {H H' : Hp} (b : But d H H') {p : Addr} (h : H' p = none) (n : p ≠ d) : H p = none := by
  cases z : H p with
  | none => rfl
  | some o => rw [b _ _ n z] at h; cases h
section
variable {P : Program} {w : World} {K : PySem.W.Frag} {mg : Str → Option Value} {base : Heap}
theorem scEffect : FnScope ["_law_draws", "_law_states", "_law_steps", "_law_step"] ["_law_draws", "_law_states", "_law_steps"] (defScope sEffect) := ⟨rfl, rfl, rfl, by decide +kernel, rfl, by decide +kernel, by decide +kernel⟩
theorem ok_effect {f fD fP : Addr} {fd fdD fdP : FuncData} (D : Def K mg "_law_random_effect" sEffect ["_law_draws", "_law_states", "_law_steps"] f fd) (DD : Def K mg "_law_draw" sDraw ["_law_draws", "_law_many"] fD fdD) (GD : FnOk P w K mg base CX0 1 fD fdD ["_law_draws", "_law_many"] spDraw)
    (DP : Def K mg "_law_pick" sPick ["_law_draws", "_law_xs"] fP fdP) (GP : FnOk P w K mg base CX0 2 fP fdP ["_law_draws", "_law_xs"] (spPick K)) : FnOk P w K mg base CX0 3 f fd ["_law_draws", "_law_states", "_law_steps"] (spEffect K) := by
  refine D.F.ok scEffect (fun vs H Q E h => ?_) (fun cdv A outer s H vs Q E hr h => ?_)
  · obtain ⟨d, ls, lp, states, steps, rfl, _⟩ := h
    rfl
  · obtain ⟨d, ls, lp, states, steps, rfl, hd, hs, hp, ns, np, l1, l2, ⟨t1, t2, t3⟩, k⟩ := h
    refine ⟨_, pss_cons (ps_set (i := 3) scEffect.nd rfl (Or.inl rfl) (pe_call GP hr (by rfl) DP.m DP.F.kp DP.b .nil pass0 (pa_cons (pv 0) (pa_cons (pv 2) pa_nil))))
      (pss_one (ps_ret (pe_tup (pa_cons (pe_call GP hr (by rfl) DP.m DP.F.kp DP.b .nil pass0 (pa_cons (pv 0) (pa_cons (pv 1) pa_nil)))
        (pa_cons (pe_cmpR op_eq (pe_call GD (hr.mono (by decide)) (by rfl) DD.m DD.F.kp DD.b .nil pass0 (pa_cons (pv 0) (pa_cons pe_int pa_nil))) pe_int (nomark _))
        (pa_cons (pe_cmpR op_eq (pe_call GD (hr.mono (by decide)) (by rfl) DD.m DD.F.kp DD.b .nil pass0 (pa_cons (pv 0) (pa_cons pe_int pa_nil))) pe_int (nomark _)) (pa_cons (pv 3) pa_nil))))))), ?_⟩
    refine ⟨_, rfl, _, rfl, d, lp, _, rfl, hd, hp, np, by rw [List.length_map]; omega, by rw [List.length_map]; omega, fun r v H1 hv hd1 b1 => ?_⟩
    obtain ⟨st, hst, rfl⟩ : ∃ st, steps[r]? = some st ∧ v = stV st := by
      rw [List.getElem?_map] at hv
      cases e : steps[r]? with
      | none => rw [e] at hv; cases hv
      | some z => rw [e] at hv; exact ⟨z, rfl, (Option.some.inj hv).symm⟩
    refine ⟨_, rfl, _, rfl, d, ls, _, rfl, hd1, b1.seq ns hs, ns, by rw [List.length_map]; omega, by rw [List.length_map]; omega, fun r2 v2 H2 hv2 hd2 b2 => ?_⟩
    obtain ⟨nx, hnx, rfl⟩ := get_str hv2
    refine ⟨_, rfl, d, 2, rfl, hd2, by decide, by decide, fun q3 H3 _ _ hd3 b3 => ⟨rfl, ?_⟩⟩
    refine ⟨_, rfl, d, 3, rfl, hd3, by decide, by decide, fun q4 H4 _ _ hd4 b4 => ⟨rfl, ?_⟩⟩
    refine ⟨_, rfl, by show 4 ≤ sizeLine; decide, fun p hp' => ?_⟩
    have b04 := ((b1.trans b2).trans b3).trans b4
    have npd := dr_ne hd4 hp'
    refine k p ⟨nx, decide (V.int q3 = V.int 0), decide (V.int q4 = V.int 0), st⟩ _ (hd4.same (same_new hp')) (b04.trans (But.of (same_new hp'))) (b04.free hp' npd) upd_same ⟨List.mem_of_getElem? hnx, t3 st (List.mem_of_getElem? hst)⟩
theorem scSteps : FnScope ["_law_draws"] ["_law_draws"] (defScope sSteps) := ⟨rfl, rfl, rfl, by decide +kernel, rfl, by decide +kernel, by decide +kernel⟩
theorem ok_steps {f fP : Addr} {fd fdP : FuncData} (D : Def K mg "_law_step_menu" sSteps ["_law_draws"] f fd)
    (DP : Def K mg "_law_pick" sPick ["_law_draws", "_law_xs"] fP fdP) (GP : FnOk P w K mg base CX0 2 fP fdP ["_law_draws", "_law_xs"] (spPick K)) : FnOk P w K mg base CX0 3 f fd ["_law_draws"] spSteps := by
  refine D.F.ok scSteps (fun vs H Q E h => ?_) (fun cdv A outer s H vs Q E hr h => ?_)
  · obtain ⟨d, rfl, _⟩ := h
    rfl
  · obtain ⟨d, rfl, hd, k⟩ := h
    refine ⟨_, pss_one (ps_ret (pe_call GP hr (by rfl) DP.m DP.F.kp DP.b .nil pass0 (pa_cons (pv 0) (pa_cons (pe_lst (pa_cons (pe_lst (pa_cons pe_int (pa_cons pe_int (pa_cons pe_int (pa_cons (pe_un un_neg pe_int) pa_nil)))))
      (pa_cons (pe_lst (pa_cons pe_int (pa_cons pe_int (pa_cons (pe_un un_neg pe_int) (pa_cons pe_str pa_nil)))))
      (pa_cons (pe_lst (pa_cons pe_int (pa_cons pe_int (pa_cons (pe_un un_neg pe_int) (pa_cons pe_int pa_nil)))))
      (pa_cons (pe_lst (pa_cons pe_int (pa_cons pe_int (pa_cons pe_int (pa_cons (pe_un un_neg pe_int) (pa_cons pe_int (pa_cons pe_str pa_nil))))))) pa_nil))))) pa_nil)))), ?_⟩
    refine ⟨_, rfl, _, rfl, by show 4 ≤ sizeLine; decide, fun a1 h1 => ?_⟩
    refine ⟨_, rfl, by show 4 ≤ sizeLine; decide, fun a2 h2 => ?_⟩
    refine ⟨_, rfl, by show 4 ≤ sizeLine; decide, fun a3 h3 => ?_⟩
    refine ⟨_, rfl, by show 6 ≤ sizeLine; decide, fun a4 h4 => ?_⟩
    refine ⟨by show 4 ≤ sizeLine; decide, fun o ho => ?_⟩
    have e1 := same_new (o := .lst [.int 0, .int 0, .int 1, .int (-1)]) h1
    have e2 := same_new (o := .lst [.int 0, .int 1, .int (-1), .str "whole"]) h2
    have e3 := same_new (o := .lst [.int 0, .int 9, .int (-9), .int 2]) h3
    have e4 := same_new (o := .lst [.int 0, .int 1, .int 1, .int (-1), .int 3, .str "whole"]) h4
    have e5 := same_new (o := .lst [.ref a1, .ref a2, .ref a3, .ref a4]) ho
    have s5 := (((e1.trans e2).trans e3).trans e4).trans e5
    have g1 := (((e2.trans e3).trans e4).trans e5) _ _ (upd_same (H := H) (a := a1) (o := .lst [.int 0, .int 0, .int 1, .int (-1)]))
    have g2 := ((e3.trans e4).trans e5) _ _ upd_same
    have g3 := (e4.trans e5) _ _ upd_same
    have g4 := e5 _ _ upd_same
    have f2 := e1.free h2
    have f3 := (e1.trans e2).free h3
    have f4 := ((e1.trans e2).trans e3).free h4
    have fo := (((e1.trans e2).trans e3).trans e4).free ho
    refine ⟨d, o, _, rfl, hd.same s5, SqL.of upd_same, dr_ne hd fo, (by show 0 < 4; decide), (by show 4 ≤ 1000; decide), fun r v H1 hv hd1 b1 => ?_⟩
    have fin : ∀ (a : Addr) (l : List (Option Int)), H a = none → GoodSteps l → (upd _ o (.lst [.ref a1, .ref a2, .ref a3, .ref a4])) a = some (.lst (l.map stV)) → Q (.ref a) H1 := fun a l ha hl hg =>
      k a l H1 hd1 ((But.of s5).trans b1) ha (b1 _ _ (dr_ne hd ha) hg) hl
    have g : ∀ l : List (Option Int), (l.all fun s => match s with | none => true | some i => decide (-9 ≤ i) && decide (i ≤ 9)) = true → 1 ≤ l.length → l.length ≤ 10 → GoodSteps l := by
      intro l h a b
      refine ⟨a, b, fun s hs i e => ?_⟩
      have := List.all_eq_true.mp h s hs
      subst e
      simpa using this
    match r, hv with
    | 0, hv => cases hv; exact fin a1 [some 0, some 0, some 1, some (-1)] h1 (g _ (by decide) (by decide) (by decide)) g1
    | 1, hv => cases hv; exact fin a2 [some 0, some 1, some (-1), none] f2 (g _ (by decide) (by decide) (by decide)) g2
    | 2, hv => cases hv; exact fin a3 [some 0, some 9, some (-9), some 2] f3 (g _ (by decide) (by decide) (by decide)) g3
    | 3, hv => cases hv; exact fin a4 [some 0, some 1, some 1, some (-1), some 3, none] f4 (g _ (by decide) (by decide) (by decide)) g4
    | r + 4, hv => simp at hv
end
end HN
namespace HN
open PySem L2
/-! ### rows that are filled -/
def rPut (rows : List (K3 × Eff)) (k : K3) (e : Eff) : List (K3 × Eff) := if (rows.any fun p => decide (p.1 = k)) = true then rows.map (fun p => if p.1 = k then (p.1, e) else p) else rows ++ [(k, e)]
theorem RowsK.repl {H : Hp} {k : K3} {e : Eff} {a : Addr} (ha : H a = some (.tup (effV e))) : ∀ {kvs : List (List Key × V)} {rows : List (K3 × Eff)}, RowsK H kvs rows →
    RowsK H (kvs.map fun kv => if kv.1 = k3 k then (kv.1, .ref a) else kv) (rows.map fun p => if p.1 = k then (p.1, e) else p)
  | _, _, .nil => .nil
  | _, _, .cons (a := p) (b := q) h t => by
    rw [List.map_cons, List.map_cons]
    refine .cons ?_ (RowsK.repl ha t)
    by_cases c : q.1 = k
    · have c' : p.1 = k3 k := by rw [h.1, c]
      rw [if_pos c, if_pos c']
      exact ⟨h.1, a, rfl, ha⟩
    · have c' : ¬ p.1 = k3 k := by rw [h.1]; exact fun z => c (k3_inj z)
      rw [if_neg c, if_neg c']
      exact h
theorem RowsK.putAny {H : Hp} {k : K3} {e : Eff} {a : Addr} (ha : H a = some (.tup (effV e))) {kvs : List (List Key × V)} {rows : List (K3 × Eff)} (r : RowsK H kvs rows) : RowsK H (putK kvs (k3 k) (.ref a)) (rPut rows k e) := by
  have hany : (kvs.any fun kv => decide (kv.1 = k3 k)) = (rows.any fun p => decide (p.1 = k)) := by
    clear ha
    induction r with
    | nil => rfl
    | cons h t ih =>
      rw [List.any_cons, List.any_cons, ih, h.1]
      congr 1
      rw [decide_eq_decide]
      exact ⟨fun z => k3_inj z, fun z => by rw [z]⟩
  unfold putK rPut
  rw [hany]
  split
  · exact r.repl ha
  · exact r.app ha
theorem rPut_mem {rows : List (K3 × Eff)} {k : K3} {e : Eff} {p : K3 × Eff} (h : p ∈ rPut rows k e) : p ∈ rows ∨ p = (k, e) := by
  unfold rPut at h
  split at h
  · obtain ⟨q, hq, z⟩ := List.mem_map.mp h
    by_cases y : q.1 = k
    · rw [if_pos y] at z
      exact .inr (by rw [← z, y])
    · rw [if_neg y] at z
      exact .inl (z ▸ hq)
  · rcases List.mem_append.mp h with h | h
    · exact .inl h
    · exact .inr (List.mem_singleton.mp h)
theorem rPut_keys (rows : List (K3 × Eff)) (k : K3) (e : Eff) : (rPut rows k e).map (·.1) = if k ∈ rows.map (·.1) then rows.map (·.1) else rows.map (·.1) ++ [k] := by
  unfold rPut
  have hany : (rows.any fun p => decide (p.1 = k)) = decide (k ∈ rows.map (·.1)) := by
    rw [Bool.eq_iff_iff]
    simp only [List.any_eq_true, decide_eq_true_eq, List.mem_map]
  rw [hany]
  by_cases h : k ∈ rows.map (·.1)
  · rw [decide_eq_true h, if_pos rfl, if_pos h, List.map_map]
    apply List.map_congr_left
    intro p _
    show (if p.1 = k then (p.1, e) else p).1 = p.1
    split <;> rfl
  · rw [decide_eq_false h, if_neg Bool.false_ne_true, if_neg h, List.map_append]; rfl
theorem rPut_len (rows : List (K3 × Eff)) (k : K3) (e : Eff) : (rPut rows k e).length ≤ rows.length + 1 := by
  unfold rPut
  split
  · rw [List.length_map]; omega
  · rw [List.length_append]; simp
theorem rPut_nd {rows : List (K3 × Eff)} {k : K3} {e : Eff} (h : (rows.map (·.1)).Nodup) : ((rPut rows k e).map (·.1)).Nodup := by
  rw [rPut_keys]
  split
  · exact h
  · rename_i hk
    refine List.nodup_append.mpr ⟨h, by simp, fun a ha b hb => ?_⟩
    rw [List.mem_singleton] at hb
    subst hb
    exact fun z => hk (z ▸ ha)
/-- rows that are being filled, at most n -/
def Filling (states sorts : List Str) (rows : List (K3 × Eff)) (n : Nat) : Prop := (rows.map (·.1)).Nodup ∧ rows.length ≤ n ∧ ∀ p ∈ rows, GoodKey states sorts p.1 ∧ GoodEff states p.2
theorem Filling.put {states sorts : List Str} {rows : List (K3 × Eff)} {n : Nat} (f : Filling states sorts rows n) {k : K3} {e : Eff} (hk : GoodKey states sorts k) (he : GoodEff states e) : Filling states sorts (rPut rows k e) (n + 1) :=
  ⟨rPut_nd f.1, Nat.le_trans (rPut_len _ _ _) (Nat.succ_le_succ f.2.1), fun p hp => (rPut_mem hp).elim (fun h => f.2.2 p h) fun h => h ▸ ⟨hk, he⟩⟩
theorem Filling.mono {states sorts : List Str} {rows : List (K3 × Eff)} {n m : Nat} (f : Filling states sorts rows n) (h : n ≤ m) : Filling states sorts rows m := ⟨f.1, Nat.le_trans f.2.1 h, f.2.2⟩
/-- all but the draws' list and one dict stays -/
def Kp (d r : Addr) (H H' : Hp) : Prop := ∀ b o, b ≠ d → b ≠ r → H b = some o → H' b = some o
theorem Kp.refl {d r : Addr} {H : Hp} : Kp d r H H := fun _ _ _ _ e => e
theorem Kp.trans {d r : Addr} {H H1 H2 : Hp} (a : Kp d r H H1) (b : Kp d r H1 H2) : Kp d r H H2 := fun x o n1 n2 e => b x o n1 n2 (a x o n1 n2 e)
theorem Kp.but {d r : Addr} {H H' : Hp} (b : But d H H') : Kp d r H H' := fun x o n1 _ e => b x o n1 e
theorem Kp.of {d r : Addr} {H H' : Hp} (s : Same H H') : Kp d r H H' := fun x o _ _ e => s x o e
theorem But.tups {d : Addr} {H H' : Hp} (b : But d H H') (hd : Dr H d) : ∀ a xs, H a = some (.tup xs) → H' a = some (.tup xs) := fun a xs e => by
  obtain ⟨x, y, z, h⟩ := hd
  exact b _ _ (ne_of e h (fun q => nomatch q)) e
theorem But.rowsD {d : Addr} {H H' : Hp} (b : But d H H') (hd : Dr H d) {r : Addr} {rows : List (K3 × Eff)} (h : RowsAt H r rows) : RowsAt H' r rows := by
  obtain ⟨kvs, h1, h2⟩ := h
  obtain ⟨x, y, z, hx⟩ := id hd
  exact ⟨kvs, b _ _ (ne_of h1 hx (fun q => nomatch q)) h1, h2.tup (b.tups hd)⟩
theorem But.worthsD {d : Addr} {H H' : Hp} (b : But d H H') (hd : Dr H d) {r : Addr} {ws : List (Str × Int)} (h : WorthsAt H r ws) : WorthsAt H' r ws := by
  obtain ⟨x, y, z, hx⟩ := id hd
  exact b _ _ (ne_of h hx (fun q => nomatch q)) h
theorem But.wordsD {d : Addr} {H H' : Hp} (b : But d H H') (hd : Dr H d) {r : Addr} {ws : List Str} (h : H r = some (.lst (ws.map V.str))) : H' r = some (.lst (ws.map V.str)) := by
  obtain ⟨x, y, z, hx⟩ := id hd
  refine b _ _ (ne_of h hx (fun q => ?_)) h
  injection q with q
  cases ws with
  | nil => simp at q
  | cons a l => simp at q
end HN

namespace HN
open PySem L2
/-- a plan in the law: as a book -/
structure PlanAt (H : Hp) (pl s t r c : Addr) (B : Bk) : Prop where
  pl : H pl = some (.tup [.ref s, .ref t, .str B.first, .ref r, .ref c])
  s : H s = some (.lst (B.states.map V.str))
  t : H t = some (.lst (B.sorts.map V.str))
  r : RowsAt H r B.rows
  c : WorthsAt H c B.worths
theorem PlanAt.same {H H' : Hp} (sm : Same H H') {pl s t r c : Addr} {B : Bk} (p : PlanAt H pl s t r c B) : PlanAt H' pl s t r c B := ⟨sm _ _ p.pl, sm _ _ p.s, sm _ _ p.t, p.r.same sm, sm _ _ p.c⟩
def NewV (H0 : Hp) (kvs : List (List L2.Key × V)) : Prop := ∀ p ∈ kvs, ∀ a, p.2 = .ref a → H0 a = none
theorem NewV.put {H0 : Hp} {kvs : List (List L2.Key × V)} (h : NewV H0 kvs) {k : List L2.Key} {a : Addr} (ha : H0 a = none) : NewV H0 (putK kvs k (.ref a)) := by
  unfold putK
  split
  · intro p hp b hb
    obtain ⟨q, hq, rfl⟩ := List.mem_map.mp hp
    split at hb
    · cases hb; exact ha
    · exact h q hq b hb
  · intro p hp b hb
    rcases List.mem_append.mp hp with hp | hp
    · exact h p hp b hb
    · rw [List.mem_singleton] at hp
      subst hp
      cases hb
      exact ha
/-- rows whose effects are new since H0 -/
def RowsN (H0 H : Hp) (d : Addr) (rows : List (K3 × Eff)) : Prop := ∃ kvs, H d = some (.dT kvs) ∧ RowsK H kvs rows ∧ NewV H0 kvs
theorem RowsN.at {H0 H : Hp} {d : Addr} {rows : List (K3 × Eff)} (h : RowsN H0 H d rows) : RowsAt H d rows := let ⟨kvs, h1, h2, _⟩ := h; ⟨kvs, h1, h2⟩
theorem RowsN.same {H0 H H' : Hp} (s : Same H H') {d : Addr} {rows : List (K3 × Eff)} (r : RowsN H0 H d rows) : RowsN H0 H' d rows := let ⟨kvs, h1, h2, h3⟩ := r; ⟨kvs, s _ _ h1, h2.same s, h3⟩
theorem But.rowsDN {d : Addr} {H0 H H' : Hp} (b : But d H H') (hd : Dr H d) {r : Addr} {rows : List (K3 × Eff)} (h : RowsN H0 H r rows) : RowsN H0 H' r rows := by
  obtain ⟨kvs, h1, h2, h3⟩ := h
  obtain ⟨x, y, z, hx⟩ := id hd
  exact ⟨kvs, b _ _ (ne_of h1 hx (fun q => nomatch q)) h1, h2.tup (b.tups hd), h3⟩
end HN

namespace HN
open PySem L2
theorem mergeK_wK : ∀ (ws acc : List (Str × Int)), ((acc ++ ws).map (·.1)).Nodup → mergeK (wK acc) (wK ws) = wK (acc ++ ws)
  | [], acc, _ => by rw [List.append_nil]; rfl
  | p :: ws, acc, nd => by
    have h : p.1 ∉ acc.map (·.1) := by
      rw [List.map_append, List.nodup_append] at nd
      intro hm
      exact nd.2.2 _ hm _ (by simp) rfl
    show mergeK (putK (wK acc) (Sum.inr p.1 : L2.Key) (.int p.2)) (wK ws) = _
    rw [putK_wK h]
    have e : acc ++ p :: ws = (acc ++ [(p.1, p.2)]) ++ ws := by simp
    rw [e]
    exact mergeK_wK ws _ (by rw [← e]; exact nd)
def PairAt (H : Hp) : List Addr → List (Str × Int) → Prop := Paired fun p q => H p = some (.tup [.str q.1, .int q.2])
theorem PairAt.keep {H H' : Hp} (s : ∀ a xs, H a = some (.tup xs) → H' a = some (.tup xs)) {ps : List Addr} {ws : List (Str × Int)} (h : PairAt H ps ws) : PairAt H' ps ws := Paired.mapP h fun _ _ e => s _ _ e
theorem PairAt.snoc {H : Hp} {p : Addr} {z : Str} {n : Int} (h : H p = some (.tup [.str z, .int n])) : ∀ {ps : List Addr} {ws : List (Str × Int)}, PairAt H ps ws → PairAt H (ps ++ [p]) (ws ++ [(z, n)])
  | _, _, .nil => .cons h .nil
  | _, _, .cons a t => .cons a (PairAt.snoc h t)
theorem PairAt.sq {K : PySem.W.Frag} {H : Hp} : ∀ {ps : List Addr} {ws : List (Str × Int)}, PairAt H ps ws → Paired (fun p kv => SqT K H p [kV kv.1, kv.2]) ps (wK ws)
  | _, _, .nil => .nil
  | _, _, .cons h t => .cons (SqT.of h) (PairAt.sq t)
def PlanNew (H : Hp) (d : Addr) (Q : VK) : Prop := ∀ pl s t r c B H', Dr H' d → But d H H' → PlanAt H' pl s t r c B → GoodBkM B → H pl = none → H s = none → H t = none → H r = none → H c = none → RowsN H H' r B.rows → Q (.ref pl) H'
theorem Kp.dr_free {d r : Addr} {H H' : Hp} (b : Kp d r H H') {p : Addr} (h : H' p = none) (nd : p ≠ d) (nr : p ≠ r) : H p = none := by
  cases z : H p with
  | none => rfl
  | some o => rw [b _ _ nd nr z] at h; cases h
def spWild : Sp := fun vs H Q _ => ∃ (d : Addr), vs = [.ref d] ∧ Dr H d ∧ PlanNew H d Q
def sorts1 : List Str := ["show"]
def sorts2 : List Str := ["show", "seen"]
def sorts3 : List Str := ["a", "b", "c"]
theorem wds1 : WdsM 3 sorts1 := by unfold WdsM; decide +kernel
theorem wds2 : WdsM 3 sorts2 := by unfold WdsM; decide +kernel
theorem wds3 : WdsM 3 sorts3 := by unfold WdsM; decide +kernel
section
variable {P : Program} {w : World} {K : PySem.W.Frag} {mg : Str → Option Value} {base : Heap}
abbrev nmWild : List Str := ["_law_draws", "_law_states", "_law_sorts", "_law_rows", "_law_steps", "_law_share", "_law_state", "_law_sort", "_law_age", "_law_counts"]
theorem scWild : FnScope nmWild ["_law_draws"] (defScope sWild) := ⟨rfl, rfl, rfl, by decide +kernel, rfl, by decide +kernel, by decide +kernel⟩
theorem ok_wild {f fD fP fW fE fS : Addr} {fd fdD fdP fdW fdE fdS : FuncData} (D : Def K mg "_law_wild" sWild ["_law_draws"] f fd) (T : Txt K mg)
    (DD : Def K mg "_law_draw" sDraw ["_law_draws", "_law_many"] fD fdD) (GD : FnOk P w K mg base CX0 1 fD fdD ["_law_draws", "_law_many"] spDraw)
    (DP : Def K mg "_law_pick" sPick ["_law_draws", "_law_xs"] fP fdP) (GP : FnOk P w K mg base CX0 2 fP fdP ["_law_draws", "_law_xs"] (spPick K))
    (DW : Def K mg "_law_drawn_words" sWords ["_law_draws", "_law_many"] fW fdW) (GW : FnOk P w K mg base CX0 2 fW fdW ["_law_draws", "_law_many"] spWords)
    (DE : Def K mg "_law_random_effect" sEffect ["_law_draws", "_law_states", "_law_steps"] fE fdE) (GE : FnOk P w K mg base CX0 3 fE fdE ["_law_draws", "_law_states", "_law_steps"] (spEffect K))
    (DS : Def K mg "_law_step_menu" sSteps ["_law_draws"] fS fdS) (GS : FnOk P w K mg base CX0 3 fS fdS ["_law_draws"] spSteps) :
    FnOk P w K mg base CX0 4 f fd ["_law_draws"] spWild := by
  refine D.F.ok scWild (fun vs H Q E h => ?_) (fun cdv A outer st H vs Q E hr h => ?_)
  · obtain ⟨d, rfl, _⟩ := h
    rfl
  · obtain ⟨d, rfl, hd, k⟩ := h
    have hu := hu_of hr
    refine ⟨_, pss_cons (ps_set (i := 1) scWild.nd rfl (Or.inl rfl) (pe_call GW (hr.mono (by decide)) (by rfl) DW.m DW.F.kp DW.b .nil pass0 (pa_cons (pv 0) (pa_cons (pe_op op_add pe_int (pe_call GD (hr.mono (by decide)) (by rfl) DD.m DD.F.kp DD.b .nil pass0 (pa_cons (pv 0) (pa_cons pe_int pa_nil)))) pa_nil))))
      (pss_cons (ps_set (i := 2) scWild.nd rfl (Or.inl rfl) (pe_call GP (hr.mono (by decide)) (by rfl) DP.m DP.F.kp DP.b .nil pass0 (pa_cons (pv 0) (pa_cons (pe_lst (pa_cons (pe_lst (pa_cons pe_str pa_nil)) (pa_cons (pe_lst (pa_cons pe_str (pa_cons pe_str pa_nil))) (pa_cons (pe_lst (pa_cons pe_str (pa_cons pe_str (pa_cons pe_str pa_nil)))) pa_nil)))) pa_nil))))
      (pss_cons (ps_par3 (i := 3) (j := 4) (l := 5) rfl scWild.nd rfl rfl rfl (by decide) (by decide) (by decide) rfl rfl rfl (pa_cons pe_dnewT (pa_cons (pe_call GS hr (by rfl) DS.m DS.F.kp DS.b .nil pass0 (pa_cons (pv 0) pa_nil))
          (pa_cons (pe_op op_add pe_int (pe_call GD (hr.mono (by decide)) (by rfl) DD.m DD.F.kp DD.b .nil pass0 (pa_cons (pv 0) (pa_cons pe_int pa_nil)))) pa_nil))) rfl)
      (pss_cons (ps_for PassesOwn.never rfl (pi_list (pv 1)) (pg_name (i := 6) scWild.nd rfl (Or.inl rfl))
        (pss_one (ps_for PassesOwn.never rfl (pi_list (pv 2)) (pg_name (i := 7) scWild.nd rfl (Or.inl rfl))
        (pss_one (ps_for PassesOwn.never rfl (pi_tup (pe_tup (pa_cons pe_str (pa_cons pe_str (pa_cons pe_str pa_nil))))) (pg_name (i := 8) scWild.nd rfl (Or.inl rfl))
        (pss_one (ps_if (pt_cmpR op_lt (pe_call GD (hr.mono (by decide)) (by rfl) DD.m DD.F.kp DD.b .nil pass0 (pa_cons (pv 0) (pa_cons pe_int pa_nil))) (pv 5) (nomark _))
          (pss_one (ps_asg (pe_call GE hr (by rfl) DE.m DE.F.kp DE.b .nil pass0 (pa_cons (pv 0) (pa_cons (pv 1) (pa_cons (pv 4) pa_nil)))) (pg_sub (pv 3) (pe_tup (pa_cons (pv 6) (pa_cons (pv 7) (pa_cons (pv 8) pa_nil)))) (set_dict hu)))) pss_nil)))))))
      (pss_cons (ps_set (i := 9) scWild.nd rfl (Or.inl rfl) (pe_callTy (call_dictP rfl) (by rfl) T.dict (by decide +kernel) (pa_cons (pe_lc (own := [("_law_state", 6)]) (g := gName 6) rfl scWild.nd (pi_list (pv 1))
        (blkOk_by (N := nmWild) (sc := defScope sWild) (by decide +kernel)) (fun _ _ _ _ _ => pg_name (i := 6) scWild.nd rfl (Or.inl rfl)) (fun _ _ _ _ _ => pts_one (pt_cmpR (r := rEq) op_eq (pe_call GD (hr.mono (by decide)) (by rfl) DD.m DD.F.kp DD.b .nil pass0 (pa_cons (pv 0) (pa_cons pe_int pa_nil))) pe_int (nomark _)))
        (fun _ _ _ _ _ => pe_tup (pa_cons (pv 6) (pa_cons (pe_op (r := rI0 fun i j => .int (i - j)) op_sub (pe_call GD (hr.mono (by decide)) (by rfl) DD.m DD.F.kp DD.b .nil pass0 (pa_cons (pv 0) (pa_cons pe_int pa_nil))) pe_int) pa_nil)))) pa_nil)))
      (pss_one (ps_ret (pe_tup (pa_cons (pv 1) (pa_cons (pv 2) (pa_cons (pe_call GP (hr.mono (by decide)) (by rfl) DP.m DP.F.kp DP.b .nil pass0 (pa_cons (pv 0) (pa_cons (pv 1) pa_nil))) (pa_cons (pv 3) (pa_cons (pv 9) pa_nil)))))))))))), ?_⟩
    -- states
    refine ⟨_, rfl, _, rfl, d, 4, rfl, hd, by decide, by decide, fun r1 H1 r10 r14 hd1 b1 => ⟨_, _, rfl, rfl, ?_⟩⟩
    obtain ⟨m1, rfl⟩ : ∃ m1 : Nat, r1 = (m1 : Int) := ⟨r1.toNat, (Int.toNat_of_nonneg r10).symm⟩
    refine ⟨d, 1 + m1, by rw [Int.natCast_add]; rfl, hd1, by omega, by omega, fun s states H2 hd2 b2 hs1 hs2 wss => ?_⟩
    have hs0 : H s = none := b1.free hs1 (dr_ne hd1 hs1)
    have nsd : s ≠ d := dr_ne hd hs0
    -- sorts
    refine ⟨_, rfl, by show 1 ≤ sizeLine; decide, fun a1 h1 => ?_⟩
    refine ⟨by show 2 ≤ sizeLine; decide, fun a2 h2 => ?_⟩
    refine ⟨by show 3 ≤ sizeLine; decide, fun a3 h3 => ?_⟩
    refine ⟨by show 3 ≤ sizeLine; decide, fun ao ho => ?_⟩
    have e1 := same_new (o := .lst [.str "show"]) h1
    have e2 := same_new (o := .lst [.str "show", .str "seen"]) h2
    have e3 := same_new (o := .lst [.str "a", .str "b", .str "c"]) h3
    have e4 := same_new (o := .lst [.ref a1, .ref a2, .ref a3]) ho
    have s4 := ((e1.trans e2).trans e3).trans e4
    have g1 := ((e2.trans e3).trans e4) _ _ (upd_same (H := H2) (a := a1) (o := .lst [.str "show"]))
    have g2 := (e3.trans e4) _ _ upd_same
    have g3 := e4 _ _ upd_same
    have f2 := e1.free h2
    have f3 := (e1.trans e2).free h3
    have fo := ((e1.trans e2).trans e3).free ho
    refine ⟨d, ao, _, rfl, hd2.same s4, SqL.of upd_same, dr_ne hd2 fo, (by show 0 < 3; decide), (by show 3 ≤ 1000; decide), fun i0 v0 H3 hv0 hd3 b3 => ?_⟩
    have b23 : But d H2 H3 := (But.of s4).trans b3
    obtain ⟨t, sorts, rfl, ht2, hst, wst⟩ : ∃ t sorts, v0 = .ref t ∧ H2 t = none ∧ H3 t = some (.lst (sorts.map V.str)) ∧ WdsM 3 sorts := by
      match i0, hv0 with
      | 0, hv0 => cases hv0; exact ⟨a1, sorts1, rfl, h1, b3 _ _ (dr_ne hd2 h1) g1, wds1⟩
      | 1, hv0 => cases hv0; exact ⟨a2, sorts2, rfl, f2, b3 _ _ (dr_ne hd2 f2) g2, wds2⟩
      | 2, hv0 => cases hv0; exact ⟨a3, sorts3, rfl, f3, b3 _ _ (dr_ne hd2 f3) g3, wds3⟩
      | i0 + 3, hv0 => simp at hv0
    have ntd : t ≠ d := dr_ne hd2 ht2
    have b02 : But d H H2 := b1.trans b2
    have ht0 : H t = none := b02.free ht2 ntd
    have b03 : But d H H3 := b02.trans b23
    have hs3 : H3 s = some (.lst (states.map V.str)) := b23 _ _ nsd hs2
    -- rows, steps, share
    refine fun r hr0 => ?_
    have e5 := same_new (o := .dT []) hr0
    have nrd : r ≠ d := dr_ne hd3 hr0
    have hrH : H r = none := b03.free hr0 nrd
    refine ⟨_, rfl, d, rfl, hd3.same e5, fun lp steps H4 hd4 b4 hlp hps gs => ?_⟩
    refine ⟨_, rfl, d, 3, rfl, hd4, by decide, by decide, fun q H5 q0 q3 hd5 b5 => ⟨_, _, rfl, rfl, _, _, _, rfl, ?_⟩⟩
    have b35 : But d H3 H5 := ((But.of e5).trans b4).trans b5
    have hr5 : H5 r = some (.dT []) := (b4.trans b5) _ _ nrd upd_same
    have nlpd : lp ≠ d := dr_ne (hd3.same e5) hlp
    have hp5 : H5 lp = some (.lst (steps.map stV)) := b5 _ _ nlpd hps
    have hs5 := b35 _ _ nsd hs3
    have ht5 := b35 _ _ ntd hst
    have b05 := b03.trans b35
    -- the loops
    have ls4 : states.length ≤ 4 := wss.2.1
    have lt3 : sorts.length ≤ 3 := wst.2.1
    have nlr : ∀ {H' : Hp} {x : Addr} {xs : List V}, Kp d r H5 H' → H5 x = some (.lst xs) → x ≠ d → H' x = some (.lst xs) := fun kp e n => kp _ _ n (ne_of e hr5 (fun z => nomatch z)) e
    refine ⟨_, rfl, s, rfl, ⟨_, SqL.of hs5⟩, for_it walk_list (fun i σ H' => ∃ k6 k7 k8 rows, σ = [some (.ref d), some (.ref s), some (.ref t), some (.ref r), some (.ref lp), some (.int (1 + q)), k6, k7, k8, none] ∧ Dr H' d ∧ Kp d r H5 H' ∧ RowsN H H' r rows ∧ Filling states sorts rows (9 * i))
      ⟨none, none, none, [], rfl, hd5, Kp.refl, ⟨[], hr5, .nil, fun p hp => nomatch hp⟩, ⟨.nil, Nat.le_refl _, fun p hp => (nomatch hp)⟩⟩ (fun i σ H' _ ⟨_, _, _, _, _, _, kp, _⟩ => SqL.of (nlr kp hs5 nsd)) (fun i x σ H' H'' hi ⟨k6, k7, k8, rows, hσ, hd', kp, hR, fl⟩ y => ?_) (fun σ H' ⟨k6, k7, k8, rows, hσ, hd', kp, hR, fl⟩ => ?_)⟩
    · obtain ⟨hH, hx⟩ := y
      have hH' := hH.symm
      subst hH'
      subst hσ
      obtain ⟨zst, hzst, rfl⟩ := get_str hx
      rw [List.length_map] at hi
      refine ⟨_, rfl, t, rfl, ⟨_, SqL.of (nlr kp ht5 ntd)⟩, for_it walk_list (fun j σ H' => ∃ k7 k8 rows, σ = [some (.ref d), some (.ref s), some (.ref t), some (.ref r), some (.ref lp), some (.int (1 + q)), some (.str zst), k7, k8, none] ∧ Dr H' d ∧ Kp d r H5 H' ∧ RowsN H H' r rows ∧ Filling states sorts rows (9 * i + 3 * j))
        ⟨k7, k8, rows, rfl, hd', kp, hR, fl⟩ (fun j σ H' _ ⟨_, _, _, _, _, kp, _⟩ => SqL.of (nlr kp ht5 ntd)) (fun j x σ H' H'' hj ⟨k7, k8, rows, hσ, hd', kp, hR, fl⟩ y => ?_) (fun σ H' ⟨k7, k8, rows, hσ, hd', kp, hR, fl⟩ => ⟨_, k7, k8, rows, hσ, hd', kp, hR, fl.mono (by rw [List.length_map]; omega)⟩)⟩
      obtain ⟨hH, hx⟩ := y
      have hH' := hH.symm
      subst hH'
      subst hσ
      obtain ⟨zso, hzso, rfl⟩ := get_str hx
      rw [List.length_map] at hj
      refine ⟨by show 3 ≤ sizeLine; decide, fun tg htg => ⟨tg, rfl, ⟨_, SqT.of upd_same⟩, ?_⟩⟩
      have etg := same_new (o := .tup [.str "newer", .str "same", .str "elder"]) htg
      have ntgd : tg ≠ d := dr_ne hd' htg
      have ntgr : tg ≠ r := fun z => by obtain ⟨kvs, h, _⟩ := hR; rw [z, h] at htg; cases htg
      have htg5 : H5 tg = none := kp.dr_free htg ntgd ntgr
      generalize hHt : upd H' tg (.tup [.str "newer", .str "same", .str "elder"]) = Ht at etg ⊢
      have htgt : Ht tg = some (.tup [.str "newer", .str "same", .str "elder"]) := by rw [← hHt]; exact upd_same
      refine for_it walk_tup (fun kk σ H'' => ∃ k8 rows, σ = [some (.ref d), some (.ref s), some (.ref t), some (.ref r), some (.ref lp), some (.int (1 + q)), some (.str zst), some (.str zso), k8, none] ∧ Dr H'' d ∧ Kp d r H5 H'' ∧ H'' tg = some (.tup [.str "newer", .str "same", .str "elder"]) ∧ RowsN H H'' r rows ∧ Filling states sorts rows (9 * i + 3 * j + kk))
        ⟨k8, rows, rfl, hd'.same etg, kp.trans (Kp.of etg), htgt, hR.same etg, fl⟩ (fun kk σ H' _ ⟨_, _, _, _, _, e, _⟩ => SqT.of e) (fun kk x σ H6 H7 hk ⟨k8, rows, hσ, hd6, kp6, htg6, hR6, fl6⟩ y => ?_) (fun σ H6 ⟨k8, rows, hσ, hd6, kp6, htg6, hR6, fl6⟩ => ⟨_, k8, rows, hσ, hd6, kp6, hR6, fl6.mono (by show 9 * i + 3 * j + 3 ≤ _; omega)⟩)
      obtain ⟨hH, hx⟩ := y
      have hH' := hH.symm
      subst hH'
      subst hσ
      obtain ⟨zag, hzag, rfl⟩ : ∃ z, ages[kk]? = some z ∧ x = .str z := get_str (ws := ages) hx
      have hk3 : kk < 3 := hk
      refine ⟨_, rfl, d, 3, rfl, hd6, by decide, by decide, fun q7 H7 _ _ hd7 b7 => ⟨_, rfl, _, _, rfl, rfl, _, rfl, ?_⟩⟩
      have hR7 := b7.rowsDN hd6 hR6
      have kp7 := kp6.trans (Kp.but b7)
      have htg7 := b7 _ _ ntgd htg6
      refine ite2 (fun _ => ?_) (fun _ => ?_)
      · refine ⟨_, rfl, _, rfl, _, rfl, d, s, lp, states, steps, rfl, hd7, SqL.of (nlr kp7 hs5 nsd), SqL.of (nlr kp7 hp5 nlpd), nsd, nlpd, wss.1, by omega, gs, fun pe ef H8 hd8 b8 hpe hpe8 gef => ?_⟩
        have hR8 := b8.rowsDN hd7 hR7
        refine ⟨_, rfl, _, rfl, _, rfl, _, rfl, by show 3 ≤ sizeLine; decide, fun tb htb => ?_⟩
        have e9 := same_new (o := .tup (v3 (zst, zso, zag))) htb
        have e9' : (upd H8 tb (.tup (v3 (zst, zso, zag)))) tb = _ := upd_same
        have hnew : H pe = none := by
          have ned : pe ≠ d := dr_ne hd7 hpe
          have ner : pe ≠ r := fun z => by obtain ⟨kvs, h, _⟩ := hR7; rw [z, h] at hpe; cases hpe
          exact b05.free (kp7.dr_free hpe ned ner) ned
        obtain ⟨kvs, hr9, rk9, nw9⟩ := hR8.same e9
        generalize hH9 : upd H8 tb (.tup (v3 (zst, zso, zag))) = H9 at e9 e9' hr9 rk9 ⊢
        have hH9' : upd H8 tb (.tup [.str zst, .str zso, .str zag]) = H9 := hH9
        rw [hH9']
        refine ⟨r, _, rfl, DPut.t (k := k3 (zst, zso, zag)) hr9 e9' ?_, ?_⟩
        · rw [rk9.len]
          exact Nat.lt_of_le_of_lt (Nat.le_trans fl6.2.1 (by omega : _ ≤ 100)) (by decide)
        have kp9 : Kp d r H5 H9 := (kp7.trans (Kp.but b8)).trans (Kp.of e9)
        have u : ∀ a xs, H9 a = some (.tup xs) → (upd H9 r (.dT (putK kvs (k3 (zst, zso, zag)) (.ref pe)))) a = some (.tup xs) := fun a xs e => by rw [upd_ne (ne_of e hr9 (fun z => nomatch z))]; exact e
        obtain ⟨x1, x2, x3, hdd⟩ := hd8
        refine ⟨_, rPut rows (zst, zso, zag) ef, rfl, ⟨x1, x2, x3, by rw [upd_ne nrd.symm]; exact e9 _ _ hdd⟩, fun b o n1 n2 e => by rw [upd_ne n2]; exact kp9 _ _ n1 n2 e, u _ _ (e9 _ _ (b8 _ _ ntgd htg7)), ⟨_, upd_same, RowsK.putAny (u _ _ (e9 _ _ hpe8)) (rk9.tup u), nw9.put hnew⟩, ?_⟩
        exact fl6.put ⟨List.mem_of_getElem? hzst, List.mem_of_getElem? hzso, List.mem_of_getElem? hzag⟩ gef
      · exact ⟨_, rows, rfl, hd7, kp7, htg7, hR7, fl6.mono (Nat.le_succ _)⟩
    · subst hσ
      have hs' := nlr kp hs5 nsd
      have ht' := nlr kp ht5 ntd
      refine ⟨_, rfl, s, rfl, ⟨_, SqL.of hs'⟩, fun L hL => lc_it walk_list (fun i H'' => ∃ ps ws, Dr H'' d ∧ But d H' H'' ∧ H'' L = some (.lst (ps.map V.ref)) ∧ PairAt H'' ps ws ∧ (ws.map (·.1)).Sublist (states.take i) ∧ ∀ p ∈ ws, -9 ≤ p.2 ∧ p.2 ≤ 9)
        ⟨[], [], hd'.same (same_new hL), But.of (same_new hL), upd_same, .nil, by simp, fun p hp => (nomatch hp)⟩ (fun i H'' _ ⟨_, _, _, b, _⟩ => SqL.of (b _ _ nsd hs')) (fun i x H8 H9 hi ⟨ps, ws, hd8, b8, hL8, pr, sl, bd⟩ y => ?_) (fun H8 ⟨ps, ws, hd8, b8, hL8, pr, sl, bd⟩ => ?_)⟩
      · obtain ⟨hH, hx⟩ := y
        have hH' := hH.symm
        subst hH'
        obtain ⟨zst, hzst, rfl⟩ := get_str hx
        have nLd : L ≠ d := dr_ne hd' hL
        have tk := take_more hzst
        have hl4 : ps.length ≤ 4 := by
          have := sl.length_le
          rw [List.length_map, List.length_take] at this
          have := Paired.length pr
          omega
        refine ⟨rfl, ?_⟩
        refine ⟨_, rfl, d, 2, rfl, hd8, by decide, by decide, fun q9 H9 _ _ hd9 b9 => ⟨rfl, _, rfl, ?_⟩⟩
        refine ite2 (fun _ => ?_) (fun _ => ?_)
        · refine ⟨_, rfl, _, rfl, d, 5, rfl, hd9, by decide, by decide, fun q10 H10 q100 q105 hd10 b10 => ⟨_, _, rfl, rfl, ?_⟩⟩
          have b90 := b9.trans b10
          refine ⟨by show 2 ≤ sizeLine; decide, fun tp htp => ⟨_, same_new htp _ _ (b90 _ _ nLd hL8), ?_, ?_⟩⟩
          · rw [List.length_map]
            exact Nat.lt_of_le_of_lt hl4 (by decide)
          have e11 := same_new (o := .tup [.str zst, .int (q10 - 2)]) htp
          have e11' : (upd H10 tp (.tup [.str zst, .int (q10 - 2)])) tp = _ := upd_same
          have hL11 := e11 _ _ (b90 _ _ nLd hL8)
          generalize hH11 : upd H10 tp (.tup [.str zst, .int (q10 - 2)]) = H11 at e11 e11' hL11 ⊢
          have u : ∀ a xs, H11 a = some (.tup xs) → (upd H11 L (.lst (ps.map V.ref ++ [.ref tp]))) a = some (.tup xs) := fun a xs e => by rw [upd_ne (ne_of e hL11 (fun z => nomatch z))]; exact e
          obtain ⟨x1, x2, x3, hdd⟩ := id hd10
          refine ⟨ps ++ [tp], ws ++ [(zst, q10 - 2)], ⟨x1, x2, x3, by rw [upd_ne nLd.symm]; exact e11 _ _ hdd⟩, fun b o n e => by rw [upd_ne (ne_of_none e hL)]; exact e11 _ _ (b90 _ _ n (b8 _ _ n e)), by rw [upd_same, List.map_append]; rfl, ?_, ?_, ?_⟩
          · exact PairAt.snoc (u _ _ e11') (pr.keep fun a xs e => u _ _ (e11 _ _ (b90.tups hd8 _ _ e)))
          · rw [tk, List.map_append]
            exact sl.append (List.Sublist.refl _)
          · intro p hp
            rcases List.mem_append.mp hp with hp | hp
            · exact bd p hp
            · rw [List.mem_singleton] at hp
              subst hp
              show -9 ≤ q10 - 2 ∧ q10 - 2 ≤ 9
              omega
        · refine ⟨ps, ws, hd9, b8.trans b9, b9 _ _ nLd hL8, pr.keep (b9.tups hd8), ?_, bd⟩
          rw [tk]
          exact sl.trans (List.sublist_append_left _ _)
      · have hws : (ws.map (·.1)).Sublist states := sl.trans (List.take_sublist _ _)
        have ndw : (ws.map (·.1)).Nodup := hws.nodup wss.2.2.1
        refine ⟨L, ps, wK ws, rfl, SqL.of hL8, pr.sq, fun c hc => ?_⟩
        have emk : mergeK [] (wK ws) = wK ws := mergeK_wK ws [] ndw
        rw [emk]
        have e12 := same_new (o := .dK (wK ws)) hc
        have ncd : c ≠ d := dr_ne hd8 hc
        have b08 : Kp d r H5 H8 := kp.trans (Kp.but b8)
        have ncr : c ≠ r := fun z => by obtain ⟨kvs, h, _⟩ := b8.rowsDN hd' hR; rw [z, h] at hc; cases hc
        have hcH : H c = none := b05.free (b08.dr_free hc ncd ncr) ncd
        have ec : (upd H8 c (.dK (wK ws))) c = some (.dK (wK ws)) := upd_same
        generalize hH12 : upd H8 c (.dK (wK ws)) = H12 at e12 ec ⊢
        have b12 : But d H' H12 := b8.trans (But.of e12)
        have hd12 := hd8.same e12
        refine ⟨_, rfl, _, rfl, _, rfl, _, rfl, d, s, _, rfl, hd12, SqL.of (b12 _ _ nsd hs'), nsd, by rw [List.length_map]; exact wss.1, by rw [List.length_map]; omega, fun i1 v1 H13 hv1 hd13 b13 => ?_⟩
        obtain ⟨first, hfi, rfl⟩ := get_str hv1
        refine ⟨_, rfl, _, rfl, by show 5 ≤ sizeLine; decide, fun pl hpl => ?_⟩
        have e14 := same_new (o := .tup [.ref s, .ref t, .str first, .ref r, .ref c]) hpl
        have b014 := b12.trans (b13.trans (But.of e14))
        have kp14 : Kp d r H5 (upd H13 pl (.tup [.ref s, .ref t, .str first, .ref r, .ref c])) := kp.trans (Kp.but b014)
        have npd : pl ≠ d := dr_ne hd13 hpl
        have b0 : But d H (upd H13 pl (.tup [.ref s, .ref t, .str first, .ref r, .ref c])) := fun b o n e => kp14 _ _ n (ne_of_none e hrH) (b05 _ _ n e)
        refine k pl s t r c ⟨states, sorts, first, rows, ws⟩ _ (hd13.same e14) b0 ⟨upd_same, b014 _ _ nsd hs', b014 _ _ ntd ht', (b014.rowsDN hd' hR).at, e14 _ _ (b13 _ _ ncd ec)⟩ ⟨wss, wst, List.mem_of_getElem? hfi, ⟨fl.1, Nat.le_trans fl.2.1 (by rw [List.length_map]; omega), fl.2.2⟩, ndw, ?_, fun p hp => ⟨hws.mem (List.mem_map_of_mem (f := (·.1)) hp), bd p hp⟩⟩ ?_ hs0 ht0 hrH hcH (b014.rowsDN hd' hR)
        · show ws.length ≤ 100
          have := hws.length_le
          rw [List.length_map] at this
          omega
        · cases z : H pl with
          | none => rfl
          | some o =>
            have npl : H13 pl = some o := (kp.trans (Kp.but (b12.trans b13))) _ _ npd (ne_of_none z hrH) (b05 _ _ npd z)
            rw [npl] at hpl; cases hpl
end
end HN


namespace HN
open PySem L2
theorem put_step {H0 H : Hp} {r : Addr} {rows : List (K3 × Eff)} (hR : RowsN H0 H r rows) {pe tb : Addr} {e : Eff} {k : K3} (hpe : H pe = some (.tup (effV e))) (htb : H tb = some (.tup (v3 k))) (hl : rows.length ≤ 1000) (hnew : H0 pe = none) :
    ∃ H', DPut H r (.ref tb) (.ref pe) H' ∧ But r H H' ∧ RowsN H0 H' r (rPut rows k e) ∧ ∀ a xs, H a = some (.tup xs) → H' a = some (.tup xs) := by
  obtain ⟨kvs, hr, rk, nw⟩ := hR
  have u : ∀ a xs, H a = some (.tup xs) → (upd H r (.dT (putK kvs (k3 k) (.ref pe)))) a = some (.tup xs) := fun a xs e => by rw [upd_ne (ne_of e hr (fun z => nomatch z))]; exact e
  exact ⟨_, DPut.t (k := k3 k) hr htb (by rw [rk.len]; exact Nat.lt_of_le_of_lt hl (by decide)), But.upd, ⟨_, upd_same, RowsK.putAny (u _ _ hpe) (rk.tup u), nw.put hnew⟩, u⟩
theorem rPut_pos (rows : List (K3 × Eff)) (k : K3) (e : Eff) : 0 < (rPut rows k e).length := by
  unfold rPut
  split
  · rename_i h
    rw [List.length_map]
    obtain ⟨x, hx, _⟩ := List.any_eq_true.mp h
    exact List.length_pos_of_mem hx
  · rw [List.length_append]; simp
theorem condAny {σ : L2.St} {H : Hp} {Q : Bool → Hp → Prop} {so st : Str} (h6 : σ[6]? = some (some (.str so))) (h5 : σ[5]? = some (some (.str st))) (h : ∀ c, Q c H) :
    tAnd (tTest (tOp rNe (tVar 6) (tC (.str "show")))) (tNot (tAnd (tTest (tOp rEq (tVar 6) (tC (.str "seen")))) (tTest (tOp rEq (tVar 5) (tC (.str "none")))))) σ H Q := by
  refine ⟨_, h6, rfl, _, rfl, ?_⟩
  refine ite2 (fun _ => ?_) (fun _ => h _)
  refine ⟨_, h6, rfl, _, rfl, ?_⟩
  refine ite2 (fun _ => ?_) (fun _ => h _)
  exact ⟨_, h5, rfl, _, rfl, h _⟩
def stN : List Str := ["none", "new", "read"]
def soN : List Str := ["show", "seen", "gone"]
theorem wdsStN : WdsM 4 stN := by unfold WdsM; decide +kernel
theorem wdsSoN : WdsM 3 soN := by unfold WdsM; decide +kernel
section
variable {P : Program} {w : World} {K : PySem.W.Frag} {mg : Str → Option Value} {base : Heap}
abbrev nmNear : List Str := ["_law_draws", "_law_states", "_law_sorts", "_law_rows", "_law_counts", "_law_state", "_law_sort", "_law_behind", "_law_step", "_law_k", "_law_key"]
theorem scNear : FnScope nmNear ["_law_draws"] (defScope sNear) := ⟨rfl, rfl, rfl, by decide +kernel, rfl, by decide +kernel, by decide +kernel⟩
theorem ok_near {f fD fP fE : Addr} {fd fdD fdP fdE : FuncData} (D : Def K mg "_law_near" sNear ["_law_draws"] f fd) (T : Txt K mg)
    (DD : Def K mg "_law_draw" sDraw ["_law_draws", "_law_many"] fD fdD) (GD : FnOk P w K mg base CX0 1 fD fdD ["_law_draws", "_law_many"] spDraw)
    (DP : Def K mg "_law_pick" sPick ["_law_draws", "_law_xs"] fP fdP) (GP : FnOk P w K mg base CX0 2 fP fdP ["_law_draws", "_law_xs"] (spPick K))
    (DE : Def K mg "_law_random_effect" sEffect ["_law_draws", "_law_states", "_law_steps"] fE fdE) (GE : FnOk P w K mg base CX0 3 fE fdE ["_law_draws", "_law_states", "_law_steps"] (spEffect K)) :
    FnOk P w K mg base CX0 4 f fd ["_law_draws"] spWild := by
  refine D.F.ok scNear (fun vs H Q E h => ?_) (fun cdv A outer st H vs Q E hr h => ?_)
  · obtain ⟨d, rfl, _⟩ := h
    rfl
  · obtain ⟨d, rfl, hd, k⟩ := h
    have hu := hu_of hr
    have hun := hr.units
    refine ⟨_, pss_cons (ps_par (i := 1) (j := 2) rfl scNear.nd rfl rfl (by decide) rfl rfl (pa_cons (pe_lst (pa_cons pe_str (pa_cons pe_str (pa_cons pe_str pa_nil)))) (pa_cons (pe_lst (pa_cons pe_str (pa_cons pe_str (pa_cons pe_str pa_nil)))) pa_nil)) rfl)
      (pss_cons (ps_par (i := 3) (j := 4) rfl scNear.nd rfl rfl (by decide) rfl rfl (pa_cons pe_dnewT (pa_cons (pe_disp (pps_cons pe_str pe_int pps_nil) rfl rfl (by simp) (by decide)) pa_nil)) rfl)
      (pss_cons (ps_for PassesOwn.never rfl (pi_list (pv 1)) (pg_name (i := 5) scNear.nd rfl (Or.inl rfl))
        (pss_one (ps_for PassesOwn.never rfl (pi_tup (pe_tup (pa_cons (pe_tup (pa_cons pe_str (pa_cons pe_str pa_nil))) (pa_cons (pe_tup (pa_cons pe_str (pa_cons pe_str pa_nil))) (pa_cons (pe_tup (pa_cons pe_str (pa_cons pe_str pa_nil))) pa_nil))))) (pg_tup rfl (pgs_cons (pg_name (i := 6) scNear.nd rfl (Or.inl rfl)) (pgs_cons (pg_name (i := 7) scNear.nd rfl (Or.inl rfl)) pgs_nil)))
          (pss_cons (ps_set (i := 8) scNear.nd rfl (Or.inl rfl) (pe_op op_sub (pe_callTy call_int1 (by rfl) T.int (by decide +kernel) (pa_cons (pe_cmpR op_eq (pv 7) pe_str (nomark _)) pa_nil)) (pe_callTy call_int1 (by rfl) T.int (by decide +kernel) (pa_cons (pe_cmpR op_eq (pv 5) pe_str (nomark _)) pa_nil))))
          (pss_cons (ps_asg (pe_tup (pa_cons (pv 7) (pa_cons pe_bl (pa_cons (pe_cmpR op_eq (pv 6) pe_str (nomark _)) (pa_cons (pv 8) pa_nil))))) (pg_sub (pv 3) (pe_tup (pa_cons (pv 5) (pa_cons (pv 6) (pa_cons pe_str pa_nil)))) (set_dict hu)))
          (pss_one (ps_if (PW.pt (pw_and (pt_cmpR op_ne (pv 6) pe_str (nomark _)) (pw_and1 (pt_not (PW.pt (pw_and (pt_cmpR op_eq (pv 6) pe_str (nomark _)) (pw_and1 (pt_cmpR op_eq (pv 5) pe_str (nomark _)))))))))
            (pss_one (ps_asg (pe_tup (pa_cons (pv 7) (pa_cons pe_bl (pa_cons pe_bl (pa_cons (pv 8) pa_nil))))) (pg_sub (pv 3) (pe_tup (pa_cons (pv 5) (pa_cons (pv 6) (pa_cons pe_str pa_nil)))) (set_dict hu)))) pss_nil)))))))
      (pss_cons (ps_for PassesOwn.never rfl (pi_range1 rfl T.range (pa_cons (pe_call GD (hr.mono (by decide)) (by rfl) DD.m DD.F.kp DD.b .nil pass0 (pa_cons (pv 0) (pa_cons pe_int pa_nil))) pa_nil)) (pg_name (i := 9) scNear.nd rfl (Or.inl rfl))
        (pss_cons (ps_set (i := 10) scNear.nd rfl (Or.inl rfl) (pe_call GP (hr.mono (by decide)) (by rfl) DP.m DP.F.kp DP.b .nil pass0 (pa_cons (pv 0) (pa_cons (pe_callB (call_sorted3 rfl hun) (by rfl) T.sorted (by decide +kernel) (pa_cons (pv 3) pa_nil)) pa_nil))))
        (pss_one (ps_asg (pe_call GE hr (by rfl) DE.m DE.F.kp DE.b .nil pass0 (pa_cons (pv 0) (pa_cons (pv 1) (pa_cons (pe_lst (pa_cons pe_int (pa_cons pe_int (pa_cons (pe_un un_neg pe_int) (pa_cons pe_str pa_nil))))) pa_nil)))) (pg_sub (pv 3) (pv 10) (set_dict hu))))))
      (pss_one (ps_ret (pe_tup (pa_cons (pv 1) (pa_cons (pv 2) (pa_cons pe_str (pa_cons (pv 3) (pa_cons (pv 4) pa_nil))))))))))), ?_⟩
    -- states, sorts
    refine ⟨by show 3 ≤ sizeLine; decide, fun s hs0 => ?_⟩
    refine ⟨by show 3 ≤ sizeLine; decide, fun t ht1 => ⟨_, _, rfl, ?_⟩⟩
    have e1 := same_new (o := .lst (stN.map V.str)) hs0
    have hs1 : (upd H s (.lst (stN.map V.str))) s = _ := upd_same
    generalize hH1 : upd H s (.lst (stN.map V.str)) = H1 at e1 hs1
    have hH1' : upd H s (.lst [.str "none", .str "new", .str "read"]) = H1 := hH1
    rw [hH1'] at ht1 ⊢
    have e2 := same_new (o := .lst (soN.map V.str)) ht1
    have ht2 : (upd H1 t (.lst (soN.map V.str))) t = _ := upd_same
    have ht0 : H t = none := e1.free ht1
    generalize hH2 : upd H1 t (.lst (soN.map V.str)) = H2 at e2 ht2
    have hH2' : upd H1 t (.lst [.str "show", .str "seen", .str "gone"]) = H2 := hH2
    rw [hH2']
    have s02 := e1.trans e2
    -- rows, counts
    refine fun r hr2 => ?_
    have e3 := same_new (o := .dT []) hr2
    have hr3 : (upd H2 r (.dT [])) r = some (.dT []) := upd_same
    generalize hH3 : upd H2 r (.dT []) = H3 at e3 hr3 ⊢
    have hr0 : H r = none := s02.free hr2
    refine fun c hc3 => ?_
    have hc0 : H c = none := (s02.trans e3).free hc3
    refine ⟨upd_same, [(Sum.inr "new", .int 1)], rfl, by decide, ?_⟩
    have hup : upd (upd H3 c (.dK [])) c (.dK (mergeK [] [(Sum.inr "new", V.int 1)])) = upd H3 c (.dK (wK [("new", 1)])) := upd_upd
    rw [hup]
    have e4 := same_new (o := .dK (wK [("new", 1)])) hc3
    have hc4 : (upd H3 c (.dK (wK [("new", 1)]))) c = some (.dK (wK [("new", 1)])) := upd_same
    generalize hH4 : upd H3 c (.dK (wK [("new", 1)])) = H4 at e4 hc4 ⊢
    have s24 := e3.trans e4
    have s04 := s02.trans s24
    have hr4 := e4 _ _ hr3
    have hs4 := (e2.trans s24) _ _ hs1
    have ht4 := s24 _ _ ht2
    have hd4 := hd.same s04
    have nrd : r ≠ d := dr_ne hd hr0
    have ncd : c ≠ d := dr_ne hd hc0
    have nsd : s ≠ d := dr_ne hd hs0
    have ntd : t ≠ d := dr_ne hd ht0
    have kpl : ∀ {H' : Hp} {x : Addr} {xs : List V}, But r H4 H' → H4 x = some (.lst xs) → H' x = some (.lst xs) := fun b e => b _ _ (ne_of e hr4 (fun z => nomatch z)) e
    refine ⟨_, _, rfl, ?_⟩
    refine ⟨_, rfl, s, rfl, ⟨_, SqL.of hs4⟩, for_it walk_list (fun i σ H' => ∃ k5 k6 k7 k8 rows, σ = [some (.ref d), some (.ref s), some (.ref t), some (.ref r), some (.ref c), k5, k6, k7, k8, none, none] ∧ But r H4 H' ∧ RowsN H H' r rows ∧ Filling stN soN rows (6 * i) ∧ (0 < i → 0 < rows.length))
      ⟨none, none, none, none, [], rfl, But.refl _ _, ⟨[], hr4, .nil, fun p hp => nomatch hp⟩, ⟨.nil, Nat.le_refl _, fun p hp => (nomatch hp)⟩, fun z => absurd z (Nat.lt_irrefl _)⟩ (fun i σ H' _ ⟨_, _, _, _, _, _, b, _⟩ => SqL.of (kpl b hs4)) (fun i x σ H' H'' hi ⟨k5, k6, k7, k8, rows, hσ, bb, hR, fl, po⟩ y => ?_) (fun σ H' ⟨k5, k6, k7, k8, rows, hσ, bb, hR, fl, po⟩ => ?_)⟩
    · obtain ⟨hH, hx⟩ := y
      have hH' := hH.symm
      subst hH'
      subst hσ
      obtain ⟨zst, hzst, rfl⟩ := get_str (ws := stN) hx
      have hi3 : i < 3 := hi
      -- the three pairs
      refine ⟨by show 2 ≤ sizeLine; decide, fun p1 hp1 => ?_⟩
      refine ⟨by show 2 ≤ sizeLine; decide, fun p2 hp2 => ?_⟩
      refine ⟨by show 2 ≤ sizeLine; decide, fun p3 hp3 => ?_⟩
      refine ⟨by show 3 ≤ sizeLine; decide, fun tg htg => ⟨tg, rfl, ⟨_, SqT.of upd_same⟩, ?_⟩⟩
      have f1 := same_new (o := .tup [.str "show", .str "new"]) hp1
      have f2 := same_new (o := .tup [.str "seen", .str "read"]) hp2
      have f3 := same_new (o := .tup [.str "gone", .str "none"]) hp3
      have f4 := same_new (o := .tup [.ref p1, .ref p2, .ref p3]) htg
      have g1 := ((f2.trans f3).trans f4) _ _ (upd_same (H := H') (a := p1) (o := .tup [.str "show", .str "new"]))
      have g2 := (f3.trans f4) _ _ upd_same
      have g3 := f4 _ _ upd_same
      have sf := ((f1.trans f2).trans f3).trans f4
      generalize hHt : upd (upd (upd (upd H' p1 (.tup [.str "show", .str "new"])) p2 (.tup [.str "seen", .str "read"])) p3 (.tup [.str "gone", .str "none"])) tg (.tup [.ref p1, .ref p2, .ref p3]) = Ht at f4 g1 g2 g3 sf ⊢
      have gt : Ht tg = some (.tup [.ref p1, .ref p2, .ref p3]) := by rw [← hHt]; exact upd_same
      refine for_it walk_tup (fun j σ H'' => ∃ k6 k7 k8 rows, σ = [some (.ref d), some (.ref s), some (.ref t), some (.ref r), some (.ref c), some (.str zst), k6, k7, k8, none, none] ∧ But r H4 H'' ∧ (∀ a xs, Ht a = some (.tup xs) → H'' a = some (.tup xs)) ∧ RowsN H H'' r rows ∧ Filling stN soN rows (6 * i + 2 * j) ∧ (0 < i ∨ 0 < j → 0 < rows.length))
        ⟨k6, k7, k8, rows, rfl, bb.trans (But.of sf), fun _ _ e => e, hR.same sf, fl, fun z => z.elim po (fun w => absurd w (Nat.lt_irrefl _))⟩ (fun j σ H'' _ ⟨_, _, _, _, _, _, u, _⟩ => SqT.of (u _ _ gt)) (fun j x σ H6 H7 hj ⟨k6, k7, k8, rows, hσ, b6, u6, hR6, fl6, po6⟩ y => ?_) (fun σ H6 ⟨k6, k7, k8, rows, hσ, b6, u6, hR6, fl6, po6⟩ => ⟨_, k6, k7, k8, rows, hσ, b6, hR6, fl6.mono (by show 6 * i + 2 * 3 ≤ _; omega), fun _ => po6 (.inr (by show 0 < 3; decide))⟩)
      obtain ⟨hH, hx⟩ := y
      have hH' := hH.symm
      subst hH'
      subst hσ
      have hj3 : j < 3 := hj
      obtain ⟨pj, so, be, rfl, hpj, hso, hbe⟩ : ∃ pj so be, x = .ref pj ∧ Ht pj = some (.tup [.str so, .str be]) ∧ so ∈ soN ∧ be ∈ stN := by
        match j, hx with
        | 0, hx => cases hx; exact ⟨p1, "show", "new", rfl, g1, by decide +kernel, by decide +kernel⟩
        | 1, hx => cases hx; exact ⟨p2, "seen", "read", rfl, g2, by decide +kernel, by decide +kernel⟩
        | 2, hx => cases hx; exact ⟨p3, "gone", "none", rfl, g3, by decide +kernel, by decide +kernel⟩
        | j + 3, hx => simp at hx
      refine ⟨pj, _, rfl, SqT.of (u6 _ _ hpj), rfl, _, _, rfl, _, _, rfl, rfl, ?_⟩
      refine ⟨_, rfl, rfl, .inr ⟨_, rfl, ?_⟩⟩
      refine ⟨_, rfl, rfl, .inr ⟨_, rfl, _, _, rfl, rfl, ?_⟩⟩
      obtain ⟨stp, hstp⟩ : ∃ stp : Int, stp = (if decide (V.str be = V.str "new") = true then (1 : Int) else 0) - (if decide (V.str zst = V.str "new") = true then (1 : Int) else 0) := ⟨_, rfl⟩
      have bst : -9 ≤ stp ∧ stp ≤ 9 := by rw [hstp]; split <;> split <;> decide
      dsimp only
      rw [← hstp]
      have gk : ∀ ag, ag ∈ ages → GoodKey stN soN (zst, so, ag) := fun ag h => ⟨List.mem_of_getElem? hzst, hso, h⟩
      have ge : ∀ ri, GoodEff stN ⟨be, true, ri, some stp⟩ := fun ri => ⟨hbe, fun i e => by cases e; exact bst⟩
      -- the newer row
      refine ⟨_, rfl, _, rfl, rfl, _, rfl, by show 4 ≤ sizeLine; decide, fun pe hpe => ?_⟩
      refine ⟨_, rfl, _, rfl, _, rfl, by show 3 ≤ sizeLine; decide, fun tb htb => ?_⟩
      have m1 := same_new (o := .tup (effV ⟨be, true, decide (V.str so = V.str "show"), some stp⟩)) hpe
      have m1' : (upd H6 pe (.tup (effV ⟨be, true, decide (V.str so = V.str "show"), some stp⟩))) pe = _ := upd_same
      have m2 := same_new (o := .tup (v3 (zst, so, "newer"))) htb
      have m2' : (upd (upd H6 pe (.tup (effV ⟨be, true, decide (V.str so = V.str "show"), some stp⟩))) tb (.tup (v3 (zst, so, "newer")))) tb = _ := upd_same
      have m12 := m1.trans m2
      have fr : ∀ {X : Hp} {z : Addr}, But r H4 X → X z = none → X r ≠ none → H z = none := fun b hz hr => s04.free (b.free hz (fun e => hr (by rw [← e]; exact hz)))
      have rr6 : H6 r ≠ none := by obtain ⟨kvs, h, _⟩ := id hR6; rw [h]; simp
      obtain ⟨H8, p8, b8, hR8, u8⟩ := put_step (hR6.same m12) (m2 _ _ m1') m2' (Nat.le_trans fl6.2.1 (by omega)) (fr b6 hpe rr6)
      refine ⟨r, H8, rfl, p8, ?_⟩
      have fl8 := fl6.put (gk "newer" (by decide +kernel)) (ge (decide (V.str so = V.str "show")))
      have b08 : But r H4 H8 := (b6.trans (But.of m12)).trans b8
      have u08 : ∀ a xs, Ht a = some (.tup xs) → H8 a = some (.tup xs) := fun a xs e => u8 _ _ (m12 _ _ (u6 _ _ e))
      refine condAny rfl rfl (fun cnd => ?_)
      cases cnd with
      | false => exact ⟨_, _, _, _, rfl, b08, u08, hR8, fl8.mono (by omega), fun _ => rPut_pos _ _ _⟩
      | true =>
        refine ⟨_, rfl, _, rfl, by show 4 ≤ sizeLine; decide, fun pe2 hpe2 => ?_⟩
        refine ⟨_, rfl, _, rfl, _, rfl, by show 3 ≤ sizeLine; decide, fun tb2 htb2 => ?_⟩
        have n1 := same_new (o := .tup (effV ⟨be, true, false, some stp⟩)) hpe2
        have n1' : (upd H8 pe2 (.tup (effV ⟨be, true, false, some stp⟩))) pe2 = _ := upd_same
        have n2 := same_new (o := .tup (v3 (zst, so, "same"))) htb2
        have n2' : (upd (upd H8 pe2 (.tup (effV ⟨be, true, false, some stp⟩))) tb2 (.tup (v3 (zst, so, "same")))) tb2 = _ := upd_same
        have n12 := n1.trans n2
        have rr8 : H8 r ≠ none := by obtain ⟨kvs, h, _⟩ := id hR8; rw [h]; simp
        obtain ⟨H9, p9, b9, hR9, u9⟩ := put_step (hR8.same n12) (n2 _ _ n1') n2' (Nat.le_trans fl8.2.1 (by omega)) (fr b08 hpe2 rr8)
        refine ⟨r, H9, rfl, p9, ?_⟩
        exact ⟨_, _, _, _, rfl, (b08.trans (But.of n12)).trans b9, fun a xs e => u9 _ _ (n12 _ _ (u08 _ _ e)), hR9, (fl8.put (gk "same" (by decide +kernel)) (ge false)).mono (by omega), fun _ => rPut_pos _ _ _⟩
    · subst hσ
      have po' : 0 < rows.length := po (by show 0 < 3; decide)
      have fl18 : Filling stN soN rows 18 := fl.mono (by show 6 * 3 ≤ 18; decide)
      have hs' := kpl bb hs4
      have ht' := kpl bb ht4
      have hc' := bb _ _ (ne_of hc4 hr4 (fun z => nomatch z)) hc4
      obtain ⟨x1, x2, x3, hdd⟩ := id hd4
      have hd' : Dr H' d := ⟨x1, x2, x3, bb _ _ nrd.symm hdd⟩
      refine ⟨_, rfl, d, 3, rfl, hd', by decide, by decide, fun q H6 q0 q3 hd6 b6 => ?_⟩
      obtain ⟨m, rfl⟩ : ∃ m : Nat, q = (m : Int) := ⟨q.toNat, (Int.toNat_of_nonneg q0).symm⟩
      have hs6 := b6 _ _ nsd hs'
      have ht6 := b6 _ _ ntd ht'
      have hc6 := b6 _ _ ncd hc'
      have hR6 := b6.rowsDN hd' hR
      obtain ⟨kvr, hr6, _⟩ := id hR6
      have nlr : ∀ {H' : Hp} {x : Addr} {xs : List V}, Kp d r H6 H' → H6 x = some (.lst xs) → x ≠ d → H' x = some (.lst xs) := fun kp e n => kp _ _ n (ne_of e hr6 (fun z => nomatch z)) e
      refine ⟨(m : Nat), rfl, by omega, by omega, for_range (lo := 0) (n := m) (fun i σ H' => ∃ k9 k10 rows, σ = [some (.ref d), some (.ref s), some (.ref t), some (.ref r), some (.ref c), k5, k6, k7, k8, k9, k10] ∧ Dr H' d ∧ Kp d r H6 H' ∧ RowsN H H' r rows ∧ Filling stN soN rows (18 + i) ∧ 0 < rows.length)
        ⟨none, none, rows, rfl, hd6, Kp.refl, hR6, fl18, po'⟩ (fun i σ H' hi ⟨k9, k10, rows, hσ, hd', kp, hR, fl, po⟩ => ?_) (fun σ H' ⟨k9, k10, rows, hσ, hd', kp, hR, fl, po⟩ => ?_)⟩
      · subst hσ
        obtain ⟨kvs, hrr, rk, _⟩ := id hR
        refine ⟨_, rfl, _, rfl, r, kvs, rows.map (·.1), rfl, .inl hrr, rk.keys, by rw [List.length_map]; exact Nat.le_trans fl.2.1 (by omega), fun ps L hps hpt hL => ?_⟩
        have eL := same_new (o := .lst (ps.map fun b => V.ref b.1)) hL
        have hlen : ps.length = rows.length := by
          have := congrArg List.length hps
          rw [List.length_map, List.length_mergeSort, List.length_map] at this
          exact this
        have nLd : L ≠ d := dr_ne hd' hL
        refine ⟨d, L, _, rfl, hd'.same eL, SqL.of upd_same, nLd, by rw [List.length_map, hlen]; exact po, by rw [List.length_map, hlen]; exact Nat.le_trans fl.2.1 (by omega), fun i1 v1 H7 hv1 hd7 b7 => ?_⟩
        obtain ⟨pk, hpk, rfl⟩ : ∃ pk, pk ∈ ps ∧ v1 = .ref pk.1 := by
          rw [List.getElem?_map] at hv1
          cases e : ps[i1]? with
          | none => rw [e] at hv1; cases hv1
          | some z => rw [e] at hv1; exact ⟨z, List.mem_of_getElem? e, (Option.some.inj hv1).symm⟩
        have hkm : pk.2 ∈ rows.map (·.1) := by
          have : pk.2 ∈ ps.map (·.2) := List.mem_map_of_mem hpk
          rw [hps] at this
          exact (List.mergeSort_perm _ _).mem_iff.mp this
        obtain ⟨row, hrow, erow⟩ := List.mem_map.mp hkm
        have gk : GoodKey stN soN pk.2 := erow ▸ (fl.2.2 row hrow).1
        have npd : pk.1 ≠ d := fun z => by
          obtain ⟨y1, y2, y3, hy⟩ := id hd'
          have := hpt pk hpk
          rw [z, hy] at this; cases this
        have b17 : But d H' H7 := (But.of eL).trans b7
        have hk7 : H7 pk.1 = some (.tup (v3 pk.2)) := b17 _ _ npd (hpt pk hpk)
        have kp7 : Kp d r H6 H7 := kp.trans (Kp.but b17)
        -- the effect
        refine ⟨_, rfl, _, rfl, _, rfl, by show 4 ≤ sizeLine; decide, fun lp hlp => ?_⟩
        have elp := same_new (o := .lst (([some 0, some 1, some (-1), none] : List (Option Int)).map stV)) hlp
        have elp' : (upd H7 lp (.lst (([some 0, some 1, some (-1), none] : List (Option Int)).map stV))) lp = _ := upd_same
        refine ⟨d, s, lp, stN, [some 0, some 1, some (-1), none], rfl, hd7.same elp, SqL.of (elp _ _ (nlr kp7 hs6 nsd)), SqL.of elp', nsd, dr_ne hd7 hlp, by decide, by decide, ⟨by decide, by decide, ?_⟩, fun pe ef H8 hd8 b8 hpe hpe8 gef => ?_⟩
        · intro s hs i e
          subst e
          simp at hs
          omega
        have b18 : But d H' H8 := b17.trans ((But.of elp).trans b8)
        have hk8 := b8 _ _ npd (elp _ _ hk7)
        have hpeH : H pe = none := by
          have ned : pe ≠ d := dr_ne (hd7.same elp) hpe
          have h1 : H' pe = none := (b17.trans (But.of elp)).free hpe ned
          have ner : pe ≠ r := fun z => by rw [z, hrr] at h1; cases h1
          have h6 : H6 pe = none := by
            cases z : H6 pe with
            | none => rfl
            | some o => rw [kp _ _ ned ner z] at h1; cases h1
          cases z : H pe with
          | none => rfl
          | some o => rw [b6 _ _ ned (bb _ _ ner (s04 _ _ z))] at h6; cases h6
        obtain ⟨H9, p9, b9, hR9, u9⟩ := put_step (b18.rowsDN hd' hR) hpe8 hk8 (Nat.le_trans fl.2.1 (by omega)) hpeH
        refine ⟨_, rfl, _, rfl, r, H9, rfl, p9, ?_⟩
        obtain ⟨y1, y2, y3, hy⟩ := id hd8
        exact ⟨_, _, _, rfl, ⟨y1, y2, y3, b9 _ _ nrd.symm hy⟩, fun b o n1 n2 e => b9 _ _ n2 (b18 _ _ n1 (kp _ _ n1 n2 e)), hR9, fl.put gk gef, rPut_pos _ _ _⟩
      · subst hσ
        have hs9 := nlr kp hs6 nsd
        have ht9 := nlr kp ht6 ntd
        have hc9 := kp _ _ ncd (ne_of hc6 hr6 (fun z => nomatch z)) hc6
        refine ⟨_, rfl, _, rfl, _, rfl, _, rfl, by show 5 ≤ sizeLine; decide, fun pl hpl => ?_⟩
        have e9 := same_new (o := .tup [.ref s, .ref t, .str "none", .ref r, .ref c]) hpl
        have npd : pl ≠ d := dr_ne hd' hpl
        have keep : ∀ b o, b ≠ d → H b = some o → H' b = some o := fun b o n e => kp _ _ n (ne_of_none e hr0) (b6 _ _ n (bb _ _ (ne_of_none e hr0) (s04 _ _ e)))
        refine k pl s t r c ⟨stN, soN, "none", rows, [("new", 1)]⟩ _ (hd'.same e9) (fun b o n e => e9 _ _ (keep b o n e)) ⟨upd_same, e9 _ _ hs9, e9 _ _ ht9, (hR.same e9).at, e9 _ _ hc9⟩ ⟨wdsStN, wdsSoN, show ("none" : Str) ∈ stN by decide +kernel, ⟨fl.1, Nat.le_trans fl.2.1 (by omega), fl.2.2⟩, show ([("new" : Str)]).Nodup by decide +kernel, show 1 ≤ 100 by decide, fun p hp => ?_⟩ ?_ hs0 ht0 hr0 hc0 (hR.same e9)
        · rw [List.mem_singleton] at hp
          subst hp
          exact ⟨show ("new" : Str) ∈ stN by decide +kernel, show (-9 : Int) ≤ 1 by decide, show (1 : Int) ≤ 9 by decide⟩
        · cases z : H pl with
          | none => rfl
          | some o =>
            have := keep _ _ npd z
            rw [this] at hpl; cases hpl
end
end HN

namespace HN
open PySem L2
theorem PlanNew.but {H H1 : Hp} {d : Addr} {Q : VK} (k : PlanNew H d Q) (hd : Dr H1 d) (b : But d H H1) : PlanNew H1 d Q := fun pl s t r c B H' hd' b' hP gB f1 f2 f3 f4 f5 ⟨kvs, n1, n2, n3⟩ =>
  k pl s t r c B H' hd' (b.trans b') hP gB (b.free f1 (dr_ne hd f1)) (b.free f2 (dr_ne hd f2)) (b.free f3 (dr_ne hd f3)) (b.free f4 (dr_ne hd f4)) (b.free f5 (dr_ne hd f5)) ⟨kvs, n1, n2, fun p hp a ha => b.free (n3 p hp a ha) (dr_ne hd (n3 p hp a ha))⟩
section
variable {P : Program} {w : World} {K : PySem.W.Frag} {mg : Str → Option Value} {base : Heap}
theorem scPlan : FnScope ["_law_draws"] ["_law_draws"] (defScope sPlan) := ⟨rfl, rfl, rfl, by decide +kernel, rfl, by decide +kernel, by decide +kernel⟩
theorem ok_plan {f fD fW fN : Addr} {fd fdD fdW fdN : FuncData} (D : Def K mg "_law_some_plan" sPlan ["_law_draws"] f fd)
    (DD : Def K mg "_law_draw" sDraw ["_law_draws", "_law_many"] fD fdD) (GD : FnOk P w K mg base CX0 1 fD fdD ["_law_draws", "_law_many"] spDraw)
    (DW : Def K mg "_law_wild" sWild ["_law_draws"] fW fdW) (GW : FnOk P w K mg base CX0 4 fW fdW ["_law_draws"] spWild)
    (DN : Def K mg "_law_near" sNear ["_law_draws"] fN fdN) (GN : FnOk P w K mg base CX0 4 fN fdN ["_law_draws"] spWild) : FnOk P w K mg base CX0 5 f fd ["_law_draws"] spWild := by
  refine D.F.ok scPlan (fun vs H Q E h => ?_) (fun cdv A outer st H vs Q E hr h => ?_)
  · obtain ⟨d, rfl, _⟩ := h
    rfl
  · obtain ⟨d, rfl, hd, k⟩ := h
    refine ⟨_, pss_one (ps_ret (pe_ifExp (pt_cmpR op_eq (pe_call GD (hr.mono (by decide)) (by rfl) DD.m DD.F.kp DD.b .nil pass0 (pa_cons (pv 0) (pa_cons pe_int pa_nil))) pe_int (nomark _))
      (pe_call GW hr (by rfl) DW.m DW.F.kp DW.b .nil pass0 (pa_cons (pv 0) pa_nil)) (pe_call GN hr (by rfl) DN.m DN.F.kp DN.b .nil pass0 (pa_cons (pv 0) pa_nil)))), ?_⟩
    refine ⟨_, rfl, d, 2, rfl, hd, by decide, by decide, fun q H1 _ _ hd1 b1 => ⟨rfl, _, rfl, ?_⟩⟩
    refine ite2 (fun _ => ?_) (fun _ => ?_)
    · exact ⟨_, rfl, d, rfl, hd1, k.but hd1 b1⟩
    · exact ⟨_, rfl, d, rfl, hd1, k.but hd1 b1⟩
end
end HN

namespace PW
open PySem PySem.Spec PyProof.Rows L2
/-! ### plans -/
/-- a tuple that holds more than data -/
def tupψ (K : PySem.W.Frag) (its : List DV) : Hp → L2.V → Prop := fun V v => ∃ a vs, v = .ref a ∧ SqT K V a vs ∧ Paired (DVat K [] V) vs its
/-- a dict of effects by keys -/
def rowsψ (rows : List (HN.K3 × HN.Eff)) : Hp → L2.V → Prop := fun V v => ∃ a kvs, v = .ref a ∧ V a = some (.dT kvs) ∧ HN.RowsK V kvs rows
def wksD (ws : List (Str × Int)) : List (Key × PyData) := ws.map fun p => (.inr p.1, .int p.2)
def planI (K : PySem.W.Frag) (B : HN.Bk) : List DV := [.d (.list (B.states.map PyData.str)), .d (.list (B.sorts.map PyData.str)), .d (.str B.first), .x (rowsψ B.rows), .x (dKψ K (wksD B.worths))]
abbrev planψ (K : PySem.W.Frag) (B : HN.Bk) := tupψ K (planI K B)
section
variable {K : PySem.W.Frag} {V V' H H' : Hp} {v : L2.V}
theorem tup_mono {its : List DV} (s : Same V V') (h : tupψ K its V v) : tupψ K its V' v := by
  obtain ⟨a, vs, e, h1, h2⟩ := h
  exact ⟨a, vs, e, same_seqT s h1, Paired.mapP h2 fun g p z => z.mono ⟨s, fun i c q => ⟨c, q, rfl⟩⟩⟩
theorem rows_mono {rows : List (HN.K3 × HN.Eff)} (s : Same V V') (h : rowsψ rows V v) : rowsψ rows V' v := by
  obtain ⟨a, kvs, e, h1, h2⟩ := h
  exact ⟨a, kvs, e, s _ _ h1, h2.same s⟩
theorem rows_asT {rows : List (HN.K3 × HN.Eff)} (h : rowsψ rows V v) : dTψ K (kvsT rows) V v := by
  obtain ⟨a, kvs, e, h1, h2⟩ := h
  obtain ⟨i1, i2⟩ := rows_dT (K := K) h2
  exact ⟨a, kvs, e, h1, i1, i2⟩
theorem wk_dq : ∀ ws : List (Str × Int), (HN.wK ws).map (·.1) = (wksD ws).map (·.1) ∧ DqL K V ((HN.wK ws).map (·.2)) ((wksD ws).map (·.2))
  | [] => ⟨rfl, .nil⟩
  | w :: ws => by
    obtain ⟨i1, i2⟩ := wk_dq ws
    exact ⟨List.cons_eq_cons.mpr ⟨rfl, i1⟩, .cons (.int w.2) i2⟩
theorem dv_get {vs : List L2.V} {its : List DV} (h : Paired (DVat K [] V) vs its) : ∀ {i : Nat} {d : DV}, its[i]? = some d → ∃ v, vs[i]? = some v ∧ DVat K [] V v d := by
  induction h with
  | nil => intro i d e; simp at e
  | cons h t ih =>
    intro i d e
    cases i with
    | zero => simp at e; subst e; exact ⟨_, rfl, h⟩
    | succ i =>
      obtain ⟨w, e1, e2⟩ := ih (i := i) (by simpa using e)
      exact ⟨w, by simpa using e1, e2⟩
end
/-! #### _law_some_plan -/
def pspPlan (K : PySem.W.Frag) : PSp := fun dvs O Q => dvs = [.o 0] ∧ O = [.dr] ∧ ∀ B, HN.GoodBkM B → Q (.x (planψ K B)) [.dr]
theorem plan_lift {K : PySem.W.Frag} (vs : List L2.V) (H : Hp) (Q : VK) (E : XK) (h : liftSp K (pspPlan K) vs H Q E) : HN.spWild vs H Q E := by
  obtain ⟨S, V, dvs, PQ, r, d, ⟨rfl, ho, k⟩, kk⟩ := h
  cases d with
  | cons d1 d2 =>
    cases d2
    obtain ⟨a, rfl, hc, hd⟩ := own_dr r d1 (by rw [ho]; rfl)
    refine ⟨a, rfl, hd, fun pl s t ro c B H' hd' hb hP gB f1 f2 f3 f4 f5 ⟨kvs, n1, n2, n3⟩ => ?_⟩

    have hHa : H a ≠ none := by
      obtain ⟨_, _, _, e⟩ := hd
      rw [e]; simp
    have hH'a : H' a ≠ none := by
      obtain ⟨_, _, _, e⟩ := hd'
      rw [e]; simp
    obtain ⟨H1, hH1⟩ : ∃ H1 : Hp, H1 = fun b => if b = a then H b else H' b := ⟨_, rfl⟩
    have s1 : Same H H1 := fun b o e => by
      rw [hH1]
      show (if b = a then H b else H' b) = some o
      by_cases q : b = a
      · rw [if_pos q]; exact e
      · rw [if_neg q]; exact hb b o q e
    have b1 : But a H1 H' := fun b o n e => by
      rw [hH1] at e
      have e' : (if b = a then H b else H' b) = some o := e
      rw [if_neg n] at e'
      exact e'
    obtain ⟨r1, e1⟩ := r.grow s1 (grown_sv r.vh) (grown_hw r.vh s1) grown_new
    have at1 : ∀ {b : Addr}, H b = none → grown V H H1 b = H' b := fun {b} e => by
      rw [grown_at e, hH1]
      show (if b = a then H b else H' b) = H' b
      rw [if_neg (fun z => hHa (by rw [← z]; exact e))]
    obtain ⟨r2, e2⟩ := r1.putB (ob' := .dr) hc b1 ⟨rfl, hd'⟩ hH'a
    refine kk (.ref pl) H' _ (grown V H H1) (.x (planψ K B)) r2 (e1.trans e2) (fun V' sv => tup_mono sv ⟨pl, _, rfl, SqT.of (by rw [at1 f1]; exact hP.pl), .cons ?_ (.cons ?_ (.cons (.str _) (.cons ?_ (.cons ?_ .nil))))⟩) ?_ (by rw [List.length_set]; exact Nat.le_refl _)
    · exact .lst (by rw [at1 f2]; exact hP.s) (DqL.strs _)
    · exact .lst (by rw [at1 f3]; exact hP.t) (DqL.strs _)
    · refine fun V2 s2 => rows_mono s2 ⟨ro, kvs, rfl, by rw [at1 f4]; exact n1, ?_⟩
      have key : ∀ {kvs : List (List Key × L2.V)} {rows : List (HN.K3 × HN.Eff)}, HN.RowsK H' kvs rows → HN.NewV H kvs → HN.RowsK (grown V H H1) kvs rows := by
        intro kvs rows hk
        induction hk with
        | nil => intro _; exact .nil
        | cons h t ih =>
          intro hn
          obtain ⟨h1, b, h2, h3⟩ := h
          refine .cons ⟨h1, b, h2, ?_⟩ (ih fun p hp => hn p (List.mem_cons_of_mem _ hp))
          rw [at1 (hn _ List.mem_cons_self b h2)]
          exact h3
      exact key n2 n3
    · refine fun V2 s2 => dK_mono s2 ⟨c, _, rfl, by rw [at1 f5]; exact hP.c, (wk_dq (K := K) (V := grown V H H1) B.worths).1, (wk_dq B.worths).2⟩
    · rw [obs_set, ho]
      exact k B gB
/-! #### what is read of a plan -/
section
variable {X : Cx} {R : Fr} {o e a b c d i value : Expr} {es : List Expr} {f g h : PTE} {fs : PTA} {pos pos' p kpos : Pos}
/-- plan[i] -/
def qIxP (K : PySem.W.Frag) (n : Nat) (f : PTE) : PTE := fun Γ O Q => f Γ O fun x O1 => ∃ its, x = .x (tupψ K its) ∧ match its[n]? with
  | some (.d y) => Q (.d y) O1
  | some (.x ψ) => Q (.x ψ) O1
  | _ => False
theorem ew_ixP {K : PySem.W.Frag} (hK : X.K = K) (n : Nat) {p2 : Pos} {j2} (ha : EW X R a f) (hs : PlainIx (.Constant (.int (n : Int)) j2 p2) := by exact fun _ _ => rfl) : EW X R (.Subscript a (.Constant (.int (n : Int)) j2 p2) pos) (qIxP K n f) := by
  subst hK
  intro S V H σ Γ Q r sl q
  refine wE_of (pe_ix ix_tup wE_pe pe_int hs) (wE_mono (ha S V H σ Γ _ r sl q) fun v H1 ⟨S1, V1, dv, r1, e1, d1, its, h, q1⟩ => ?_)
  subst h
  obtain ⟨a, vs, rfl, h1, h2⟩ := d1 V1 (Same.refl _)
  split at q1
  · rename_i y hy
    obtain ⟨u, hu, du⟩ := dv_get h2 hy
    exact ⟨a, vs, n, u, rfl, rfl, same_seqT r1.vh h1, atI_nat hu, PostE.ext e1 (.here r1 (dv := .d y) (DVat.any (fun i z => by cases z) du) q1)⟩
  · rename_i ψ hy
    obtain ⟨u, hu, du⟩ := dv_get h2 hy
    exact ⟨a, vs, n, u, rfl, rfl, same_seqT r1.vh h1, atI_nat hu, PostE.ext e1 (.here r1 (dv := .x ψ) (DVat.any (fun i z => by cases z) du) q1)⟩
  · exact q1.elim
/-- a thing that a word tells, told by a weaker one -/
def qAsT (K : PySem.W.Frag) (f : PTE) : PTE := fun Γ O Q => f Γ O fun x O1 => ∃ rows, x = .x (rowsψ rows) ∧ Q (.x (dTψ K (kvsT rows))) O1
theorem ew_asT {K : PySem.W.Frag} (hK : X.K = K) (ha : EW X R a f) : EW X R a (qAsT K f) := by
  subst hK
  intro S V H σ Γ Q r sl q
  exact wE_mono (ha S V H σ Γ _ r sl q) fun v H1 ⟨S1, V1, dv, r1, e1, d1, rows, h, q1⟩ => by
    subst h
    exact ⟨S1, V1, .x (dTψ X.K (kvsT rows)), r1, e1, fun V' s => rows_asT (d1 V' s), q1⟩
end
end PW

namespace PW
open PySem PySem.Spec PyProof.Rows L2
/-! ### Book(..) of a plan's parts -/
def qBookP (K : PySem.W.Frag) (C : Addr) (fs : PTA) (g : PTE) : PTE := fun Γ O Q => fs Γ O fun dvs O1 => g Γ O1 fun kv O2 => ∃ (B : HN.Bk), dvs = [.d (.list (B.states.map PyData.str)), .d (.list (B.sorts.map PyData.str)), .d (.str B.first), .x (rowsψ B.rows)] ∧
  kv = .x (dKψ K (wksD B.worths)) ∧ HN.GoodBk B ∧ Q (.x (bookψ C (HN.toldB B))) O2
section
variable {X : Cx} {R : Fr} {a b c d e : Expr} {g : PTE} {fs : PTA} {pos p kpos : Pos}
theorem ew_bookP {K : PySem.W.Frag} {C fB : Addr} {fd : FuncData} (hK : X.K = K) (M : Mk K C fB) (F : FunD K "__init__" "Book.__init__" (defArgs HN.sBInit) (defBody HN.sBInit) (defScope HN.sBInit) [] [("worths", .non)] fB fd)
    (G : FnOk X.prog X.w K X.mg X.base CX0 6 fB fd HN.psBInit (HN.spBInitV K C)) (hr : Room 7 X.A) (mgC : X.mg "Book" = some (.ref C)) (ha : AW X R [a, b, c, d] fs) (hk : EW X R e g) (hg : Gl X "Book" := by rfl)
    (hall : (backToKw pos (keywordEach [⟨some "worths", e, kpos⟩] X.env)).all (·.1.isSome) = true := by rfl) (hks : (backToKw pos (keywordEach [⟨some "worths", e, kpos⟩] X.env)).filterMap (·.1) = (["worths"] : List Str) := by rfl)
    (he : starEach [a, b, c, d] X.env = (false, eval a X.env) :: starEach [b, c, d] X.env := by rfl) (hpl : ((backTo pos (starEach [a, b, c, d] X.env)).any (·.1) || (backToKw pos (keywordEach [⟨some "worths", e, kpos⟩] X.env)).any (·.1.isNone)) = false := by rfl) :
    EW X R (.Call (.Name "Book" p) [a, b, c, d] [⟨some "worths", e, kpos⟩] pos) (qBookP K C fs g) := by
  subst hK
  obtain ⟨mv, hb⟩ := HN.kb_book F
  intro S V H σ Γ Q r sl q
  refine wE_of (pe_makeK M G hr hg mgC hb pass0 wA_pa (pk_cons wE_pe pk_nil) hall hks (by decide) he hpl) (wA_mono (ha S V H σ Γ _ r sl q) fun vs H1 ⟨S1, V1, dvs, r1, e1, d1, q1⟩ => wE_mono (hk S1 V1 H1 σ Γ _ r1 (sl.mono e1) q1) fun z H2 ⟨S2, V2, kv, r2, e2, d2, B, hdv, hw, gB, q2⟩ => ?_)
  subst hdv hw
  cases d1 with
  | cons a1 t1 => cases t1 with
    | cons a2 t2 => cases t2 with
      | cons a3 t3 => cases t3 with
        | cons a4 t4 =>
          cases t4
          cases a3
          obtain ⟨p4, kvs, rfl, w1, w2⟩ := (a4.mono e2) V2 (Same.refl _)
          obtain ⟨c4, us, rfl, u1, u2, u3⟩ := d2 V2 (Same.refl _)
          have hus := dK_worths u2 u3
          subst hus
          have a1' := a1.mono e2
          have a2' := a2.mono e2
          cases a1' with
          | @lst p1 xs1 _ h1 h1' =>
            cases a2' with
            | @lst p2 xs2 _ h2 h2' =>
              have hx1 := dqL_strs h1'
              have hx2 := dqL_strs h2'
              subst hx1 hx2
              refine ⟨rfl, rfl, fun x dx hx hdx ndx => ?_⟩
              have s1 := HN.same_new (o := .own x) hdx
              have hx' : (upd H2 dx (.own x)) x = none := by rw [upd_ne (fun z => ndx z.symm)]; exact hx
              have s2 := s1.trans (HN.same_new (o := .ins C dx []) hx')
              have vx : V2 x = none := r2.vnone hx
              refine ⟨x, dx, p1, p2, p4, .ref c4, B, V2, rfl, upd_same, vx, r2.vh.trans s2, SqL.of ((r2.vh.trans s2) _ _ h1), SqL.of ((r2.vh.trans s2) _ _ h2), ⟨kvs, (r2.vh.trans s2) _ _ w1, w2⟩, .inr ⟨c4, rfl, (r2.vh.trans s2) _ _ u1⟩, gB, fun H' b' nb => ⟨rfl, ?_⟩⟩
              have s' : Same H2 H' := fun b o e => b' b o (fun z => by rw [z, hx] at e; cases e) (s2 _ _ e)
              obtain ⟨r3, e3⟩ := r2.grow s' (grown_sv r2.vh) (grown_hw r2.vh s') grown_new
              obtain ⟨s, t, e', w', tr, kv2, n1, ⟨n2, m2⟩, ⟨n3, m3⟩, ⟨n4, m4, rk⟩, ⟨n5, m5⟩⟩ := nb
              have hB : HN.BookAt C (grown V2 H2 H') x (HN.toldB B) := ⟨dx, s, t, e', w', tr, by rw [grown_at hx]; exact n1, by rw [grown_at (s2.free m2)]; exact n2, by rw [grown_at (s2.free m3)]; exact n3, ⟨kv2, by rw [grown_at (s2.free m4)]; exact n4, rk.same (grown_sv r2.vh)⟩, by
                show grown V2 H2 H' w' = _
                rw [grown_at (s2.free m5)]; exact n5⟩
              exact PostE.ext ((e1.trans e2).trans e3) (.here r3 (dv := .x (bookψ C (HN.toldB B))) (fun V' sv => book_mono sv ⟨x, rfl, hB⟩) q2)
end
end PW

namespace HN
open PySem L2 PyProof.Rows PySem.Spec
/-! ### sorted texts are told by their multiset -/
def leS (a b : Str) : Prop := a.cps.toList ≤ b.cps.toList
theorem leS_of {a b : Str} (h : ltCps b.cps.toList a.cps.toList = false) : leS a b := by
  rw [ltCps_eq] at h
  exact List.not_lt.mp (of_decide_eq_false h)
theorem rising_pw : ∀ (l : List Str) (p : Str), risingS p l = true → (p :: l).Pairwise leS
  | [], p, _ => List.pairwise_singleton _ _
  | x :: r, p, h => by
    have h' : (!ltCps x.cps.toList p.cps.toList && risingS x r) = true := h
    rw [Bool.and_eq_true] at h'
    have a : leS p x := leS_of (by simpa using h'.1)
    have ih := rising_pw r x h'.2
    refine List.pairwise_cons.mpr ⟨fun y hy => ?_, ih⟩
    rcases List.mem_cons.mp hy with rfl | hy
    · exact a
    · exact List.le_trans a ((List.pairwise_cons.mp ih).1 y hy)
theorem sortedS_pw {l : List Str} (h : sortedS l = true) : l.Pairwise leS := by
  cases l with
  | nil => exact .nil
  | cons x r => exact rising_pw r x h
theorem str_ext {a b : Str} (h : a.cps.toList = b.cps.toList) : a = b := by
  cases a with
  | mk x => cases b with
    | mk y => exact congrArg Str.mk (Array.toList_inj.mp h)
theorem leS_antisymm {a b : Str} (h1 : leS a b) (h2 : leS b a) : a = b := str_ext (List.le_antisymm h1 h2)
theorem sortedS_uniq {xs ys : List Str} (p : xs.Perm ys) (hx : sortedS xs = true) (hy : sortedS ys = true) : xs = ys :=
  p.eq_of_pairwise (fun _ _ _ _ h1 h2 => leS_antisymm h1 h2) (sortedS_pw hx) (sortedS_pw hy)
def IsSort (ks ys : List Str) : Prop := ys.Perm ks ∧ sortedS ys = true
end HN

/-! KS: Book.states -/
namespace HN
open PySem L2
def spBStates (C : Addr) : Sp := fun vs H Q _ => ∃ (p : Addr) (B : Bk), vs = [.ref p] ∧ BookAt C H p B ∧ ∀ l, H l = none → Q (.ref l) (upd H l (.lst (B.states.map V.str)))
section
variable {P : Program} {w : World} {K : PySem.W.Frag} {mg : Str → Option Value} {base : Heap}
theorem scBStates : FnScope ["self"] ["self"] (defScope sBStates) := ⟨rfl, rfl, rfl, by decide +kernel, rfl, by decide +kernel, by decide +kernel⟩
theorem ok_bStates {f C : Addr} {fd : FuncData} (F : Fun K "states" "Book.states" sBStates f fd) (T : Txt K mg) (BC : BookC K mg C) : FnOk P w K mg base CX0 1 f fd ["self"] (spBStates C) := by
  refine F.ok scBStates (fun vs H Q E h => ?_) (fun cdv A outer s H vs Q E hr h => ?_)
  · obtain ⟨p, B, rfl, _⟩ := h
    rfl
  · obtain ⟨p, B, rfl, ⟨dx, ls, lt, e, w', tr, hp, h1, h2, h3, h4⟩, k⟩ := h
    refine ⟨_, pss_one (ps_ret (pe_callTy call_list_of (by rfl) T.list (by decide +kernel) (pa_cons (pe_fld (pv 0) rfl) pa_nil))), ?_⟩
    exact ⟨_, rfl, p, C, dx, _, .ref ls, rfl, hp, BC.cl, BC.n1, bkF_states .., ls, _, rfl, .inl (SqL.of h1), fun l hl => k l hl⟩
end
end HN
namespace PW
open PySem PySem.Spec PyProof.Rows L2
def pspBStates (C : Addr) : PSp := fun dvs O Q => ∃ B, dvs = [.x (bookψ C B)] ∧ O = [] ∧ Q (.d (.list (B.states.map PyData.str))) []
section
variable {P : Program} {w : World} {K : PySem.W.Frag} {mg : Str → Option Value} {base : Heap} {k : Nat} {f C : Addr} {fd : FuncData} {ps : List Str}
theorem lift_bStates (G : FnOk P w K mg base CX0 k f fd ps (HN.spBStates C)) : FnOk P w K mg base CX0 k f fd ps (liftSp K (pspBStates C)) :=
  lift_gr G (fun _ _ _ ⟨_, _, h, _⟩ => h) fun V H vs dvs PQ vh d ⟨B, e, _, q⟩ Q E k => by
    subst e
    cases d with
    | cons d1 d2 =>
      cases d2
      obtain ⟨p, rfl, hB⟩ := d1 V (Same.refl _)
      exact ⟨p, B, rfl, hB.same vh, fun l hl => k _ _ (.d _) (HN.same_new hl) (.lst (by rw [grown_at hl, upd_same]) (DqL.strs _)) q⟩
end
end PW

namespace PW
open PySem L2
def top (i : Nat) : Stmt := PySem.Challenge.pw_heldnotes_k14_standings_of_rows.main.body.getD i (.Pass ⟨0, 0, 0, 0⟩)
abbrev sPWall : Stmt := top 0
abbrev sPHelderror : Stmt := top 2
abbrev sPBadstates : Stmt := top 3
abbrev sPBadsorts : Stmt := top 4
abbrev sPBadfirst : Stmt := top 5
abbrev sPBadrow : Stmt := top 6
abbrev sPBadworth : Stmt := top 7
abbrev sPBadletter : Stmt := top 8
abbrev sPIsList : Stmt := top 10
abbrev sPIsInt : Stmt := top 11
abbrev sPIsIntWithin : Stmt := top 12
abbrev sPIsWord : Stmt := top 13
abbrev sPIsWordList : Stmt := top 14
abbrev sPIdleEffect : Stmt := top 18
abbrev sPIsKey : Stmt := top 19
abbrev sPIsStep : Stmt := top 20
abbrev sPIsEffect : Stmt := top 21
abbrev sPToldEffects : Stmt := top 22
abbrev sPToldWorths : Stmt := top 23
abbrev sPBook : Stmt := top 24
abbrev sPIsLetter : Stmt := top 26
abbrev sPBadIndex : Stmt := top 27
abbrev sPFirstStanding : Stmt := top 31
abbrev sPSpotsAt : Stmt := top 32
abbrev sPSpotOf : Stmt := top 33
abbrev sPKeyAt : Stmt := top 34
abbrev sPStandingBehind : Stmt := top 35
abbrev sPMoveBy : Stmt := top 36
abbrev sPCourse : Stmt := top 37
abbrev sPCheckRow : Stmt := top 39
abbrev sPStandingOf : Stmt := top 40
abbrev sLSource : Stmt := top 42
abbrev sLDraw : Stmt := top 43
abbrev sLPick : Stmt := top 44
abbrev sLSame : Stmt := top 45
abbrev sLEffectOf : Stmt := top 46
abbrev sLAgeOf : Stmt := top 47
abbrev sLGone : Stmt := top 48
abbrev sLStandingBehind : Stmt := top 49
abbrev sLDrawnWords : Stmt := top 50
abbrev sLRandomEffect : Stmt := top 51
abbrev sLStepMenu : Stmt := top 52
abbrev sLWild : Stmt := top 53
abbrev sLNear : Stmt := top 54
abbrev sLSomePlan : Stmt := top 55
abbrev sLBookOf : Stmt := top 56
abbrev sLSomeRow : Stmt := top 57
abbrev sLTried : Stmt := top 58
abbrev sPLaw : Stmt := top 59
end PW

namespace PW
open PySem PySem.Spec PyProof.Rows L2
section
variable {P : Program} {w : World} {K : PySem.W.Frag} {mg : Str → Option Value} {base : Heap}
theorem scLDraw : FnScope ["_law_draws", "_law_many", "_law_found"] ["_law_draws", "_law_many"] (defScope sLDraw) := ⟨rfl, rfl, rfl, by decide +kernel, rfl, by decide +kernel, by decide +kernel⟩
theorem drawH {f : Addr} {fd : FuncData} (F : Fun K "_law_draw" "_law_draw" sLDraw f fd) (T : Txt K mg) : FnOk P w K mg base CX0 1 f fd ["_law_draws", "_law_many"] spDrawH := by
  refine F.ok scLDraw (fun vs H Q E h => ?_) (fun cdv A outer s H vs Q E hr h => ?_)
  · obtain ⟨d, m, rfl, _⟩ := h
    rfl
  · obtain ⟨d, m, rfl, ⟨a, b, c, hd⟩, h0, h1, k⟩ := h
    refine ⟨_, pss_cons (ps_if (pt_cmpR op_gt (pe_ix ix_list (pv 0) pe_int (fun _ _ => rfl)) pe_int (nomark _))
        (pss_cons (ps_set (i := 2) scLDraw.nd rfl (Or.inl rfl) (pe_op op_mod (pe_callTy call_int1 (by rfl) T.int (by decide +kernel) (pa_cons (pe_ix ix_list (pv 0) pe_int (fun _ _ => rfl)) pa_nil)) (pv 1)))
        (pss_cons (ps_asg (pe_op op_fdiv (pe_ix ix_list (pv 0) pe_int (fun _ _ => rfl)) (pv 1)) (pg_sub (pv 0) pe_int set_list))
        (pss_one (ps_ret (pv 2))))) pss_nil)
      (pss_cons (ps_asg (pe_op op_add (pe_ix ix_list (pv 0) pe_int (fun _ _ => rfl)) pe_int) (pg_sub (pv 0) pe_int set_list))
      (pss_cons (ps_asg (pe_op op_mod (pe_callTy call_int1 (by rfl) T.int (by decide +kernel) (pa_cons (pe_op op_add (pe_op op_add (pe_op op_mul (pe_ix ix_list (pv 0) pe_int (fun _ _ => rfl)) pe_int) (pe_op op_mul (pe_ix ix_list (pv 0) pe_int (fun _ _ => rfl)) pe_int)) pe_int) pa_nil)) pe_int) (pg_sub (pv 0) pe_int set_list))
      (pss_one (ps_ret (pe_op op_mod (pe_callTy call_int1 (by rfl) T.int (by decide +kernel) (pa_cons (pe_op op_add (pe_op op_fdiv (pe_ix ix_list (pv 0) pe_int (fun _ _ => rfl)) pe_int) (pe_ix ix_list (pv 0) pe_int (fun _ _ => rfl))) pa_nil)) (pv 1)))))), ?_⟩
    refine ⟨_, rfl, d, _, 0, _, rfl, rfl, SqL.of hd, rfl, _, _, rfl, rfl, _, rfl, ?_⟩
    refine ite2 (fun _ => ?_) (fun _ => ?_)
    · refine ⟨_, rfl, d, _, 0, _, rfl, rfl, SqL.of hd, rfl, .inl ⟨_, rfl, ?_⟩⟩
      refine ⟨_, rfl, _, _, rfl, rfl, h0, ?_⟩
      refine ⟨_, rfl, d, _, 0, _, rfl, rfl, SqL.of hd, rfl, _, rfl, _, _, rfl, rfl, ⟨h0, by omega⟩, ?_⟩
      refine ⟨_, rfl, d, _, 0, 0, rfl, rfl, hd, rfl, ?_⟩
      refine ⟨_, rfl, ?_⟩
      exact k _ _ (Int.emod_nonneg _ (by omega)) (Int.emod_lt_of_pos _ h0) ⟨_, _, _, upd_same⟩ But.upd
    · refine ⟨_, rfl, d, _, 2, _, rfl, rfl, SqL.of hd, rfl, _, _, rfl, rfl, ?_⟩
      refine ⟨_, rfl, d, _, 2, 2, rfl, rfl, hd, rfl, ?_⟩
      refine ⟨_, rfl, d, _, 1, _, rfl, rfl, SqL.of upd_same, rfl, _, _, rfl, rfl, .inr (by decide), ?_⟩
      refine ⟨_, rfl, d, _, 2, _, rfl, rfl, SqL.of upd_same, rfl, _, _, rfl, rfl, .inr (by decide), ?_⟩
      refine ⟨_, _, rfl, rfl, _, _, rfl, rfl, .inl ⟨_, rfl, ?_⟩⟩
      refine ⟨_, _, rfl, rfl, by show (0 : Int) < 2147483647; decide, ?_⟩
      refine ⟨_, rfl, d, _, 1, 1, rfl, rfl, upd_same, rfl, ?_⟩
      refine ⟨_, rfl, d, _, 1, _, rfl, rfl, SqL.of upd_same, rfl, _, _, rfl, rfl, ⟨by decide, by decide⟩, ?_⟩
      refine ⟨_, rfl, d, _, 1, _, rfl, rfl, SqL.of upd_same, rfl, _, _, rfl, rfl, .inl ⟨_, rfl, ?_⟩⟩
      refine ⟨_, rfl, _, _, rfl, rfl, h0, ?_⟩
      exact k _ _ (Int.emod_nonneg _ (by omega)) (Int.emod_lt_of_pos _ h0) ⟨_, _, _, upd_same⟩ (But.upd.trans But.upd)
theorem okLDraw {f : Addr} {fd : FuncData} (D : Def K mg "_law_draw" sLDraw ["_law_draws", "_law_many"] f fd) (T : Txt K mg) : FnOk P w K mg base CX0 1 f fd ["_law_draws", "_law_many"] (liftSp K pspDraw) := (drawH D.F T).imp draw_lift
theorem scLSource : FnScope ["_law_script", "_law_place", "_law_cell"] ["_law_script", "_law_place"] (defScope sLSource) := ⟨rfl, rfl, rfl, by decide +kernel, rfl, by decide +kernel, by decide +kernel⟩
theorem sourceH {f : Addr} {fd : FuncData} (F : Fun K "_law_source" "_law_source" sLSource f fd) (T : Txt K mg) : FnOk P w K mg base CX0 1 f fd ["_law_script", "_law_place"] (spSourceH K) := by
  refine F.ok scLSource (fun vs H Q E h => ?_) (fun cdv A outer s H vs Q E hr h => ?_)
  · obtain ⟨a, ns, k, rfl, _⟩ := h
    rfl
  · obtain ⟨a, ns, i, rfl, hS, h0, h1, k⟩ := h
    refine ⟨_, pss_cons (ps_set (i := 2) scLSource.nd rfl (Or.inl rfl) (pe_ifExp (pt_cmpR op_lt (pv 1) (pe_callB call_len_seq (by rfl) T.len PySem.boot_len (pa_cons (pv 0) pa_nil)) (nomark _)) (pe_ix ix_list (pv 0) (pv 1) (fun _ _ => rfl))
        (pe_op op_add (pe_op op_mul pe_int (pv 1)) pe_int)))
      (pss_one (ps_ret (pe_lst (pa_cons (pe_ifExp (pt_cmpR op_ge (pv 2) (pe_op op_pow pe_int pe_int) (nomark _)) (pv 2) pe_int)
        (pa_cons (pe_op op_mod (pe_callTy call_int1 (by rfl) T.int (by decide +kernel) (pa_cons (pv 2) pa_nil)) pe_int) (pa_cons pe_int pa_nil)))))), ?_⟩
    have rest : ∀ z : Int, tRet (tLst (tCons (tIf (tTest (tOp (rI0 fun i j => .bl (decide (j ≤ i))) (tVar 2) (tOp (rI CPow fun i j => .int (i ^ j.toNat)) (tC (.int 10)) (tC (.int 18))))) (tVar 2) (tC (.int 0)))
        (tCons (tOp (rI (fun _ j => 0 < j) fun i j => .int (i % j)) (tCB (fun xs H Q => (∃ i, xs = [.int i] ∧ Q (.int i) H) ∨ ∃ k, xs = [.bl k] ∧ Q (.int (if k then 1 else 0)) H) (tCons (tVar 2) tNil)) (tC (.int 2147483647))) (tCons (tC (.int 0)) tNil))))
        { nx := fun _ H' => Q .non H', rt := Q } [some (.ref a), some (.int i), some (.int z)] H := by
      intro z
      refine ⟨_, rfl, _, _, rfl, rfl, ⟨by decide, by decide, by decide⟩, _, _, rfl, rfl, _, rfl, ?_⟩
      refine ite2 (fun _ => ?_) (fun _ => ?_)
      · refine ⟨_, rfl, _, rfl, .inl ⟨_, rfl, _, _, rfl, rfl, (by show (0 : Int) < 2147483647; decide), ?_⟩⟩
        refine ⟨by show 3 ≤ sizeLine; decide, fun p hp => ?_⟩
        exact k p hp _ _ _
      · refine ⟨_, rfl, .inl ⟨_, rfl, _, _, rfl, rfl, (by show (0 : Int) < 2147483647; decide), ?_⟩⟩
        refine ⟨by show 3 ≤ sizeLine; decide, fun p hp => ?_⟩
        exact k p hp _ _ _
    refine ⟨_, rfl, _, rfl, a, _, rfl, .inl hS, _, _, rfl, rfl, _, rfl, ?_⟩
    refine ite2 (fun hlt => ?_) (fun _ => ?_)
    · have hlt' := of_decide_eq_true hlt
      rw [List.length_map] at hlt'
      obtain ⟨j, rfl⟩ : ∃ j : Nat, i = (j : Int) := ⟨i.toNat, (Int.toNat_of_nonneg h0).symm⟩
      have hj : j < ns.length := by omega
      refine ⟨_, rfl, _, rfl, a, _, _, _, rfl, rfl, hS, atI_nat (v := L2.V.int ns[j]) (by rw [List.getElem?_map, List.getElem?_eq_getElem hj]; rfl), ?_⟩
      exact rest _
    · refine ⟨_, rfl, _, _, rfl, rfl, .inl (by decide), _, _, rfl, rfl, ?_⟩
      exact rest _
theorem okLSource {f : Addr} {fd : FuncData} (D : Def K mg "_law_source" sLSource ["_law_script", "_law_place"] f fd) (T : Txt K mg) : FnOk P w K mg base CX0 1 f fd ["_law_script", "_law_place"] (liftSp K (pspSource K)) := (sourceH D.F T).imp source_lift
end
end PW
namespace PW
open PySem PySem.Spec PyProof.Rows L2
section
variable {P : Program} {w : World} {K : PySem.W.Frag} {mg : Str → Option Value} {base : Heap}
abbrev nmLPick : List Str := ["_law_draws", "_law_xs"]
theorem scLPick : FnScope nmLPick ["_law_draws", "_law_xs"] (defScope sLPick) := ⟨rfl, rfl, rfl, by decide +kernel, rfl, by decide +kernel, by decide +kernel⟩
theorem okLPick {f : Addr} {fd : FuncData} (D : Def K mg "_law_pick" sLPick ["_law_draws", "_law_xs"] f fd) (T : Txt K mg)
    {fLDraw : Addr} {fdLDraw : FuncData} (DLDraw : Def K mg "_law_draw" sLDraw ["_law_draws", "_law_many"] fLDraw fdLDraw) (GLDraw : FnOk P w K mg base CX0 1 fLDraw fdLDraw ["_law_draws", "_law_many"] (liftSp K pspDraw)) :
    FnOk P w K mg base CX0 2 f fd ["_law_draws", "_law_xs"] (liftSp K pspPick) := by
  refine fnP D.F scLPick (fun cdv A outer s H E hr R => (bw_one (sw_ret (ew_ix (ew_var 1) (ew_call GLDraw (hr.mono (by decide)) DLDraw.m DLDraw.F.kp DLDraw.b (aw_cons (ew_var 0) (aw_cons (ew_blt b_len T.len PySem.boot_len (aw_cons (ew_var 1) aw_nil)) aw_nil))))))) (fun dvs O PQ q => ?_)
  obtain ⟨ds, rfl, rfl, h0, h1, k⟩ := q
  refine ⟨rfl, ?_⟩
  refine ⟨rfl, (ds.length : Int), rfl, rfl, by omega, by omega, fun r r0 r1 => ?_⟩
  obtain ⟨j, rfl⟩ : ∃ j : Nat, r = (j : Int) := ⟨r.toNat, (Int.toNat_of_nonneg r0).symm⟩
  have hj : j < ds.length := by omega
  have e : atI ds (j : Int) = some ds[j] := atI_nat (List.getElem?_eq_getElem hj)
  show (match atI ds (j : Int) with | some e => RetN 1 PQ (.d e) [.dr] | none => False)
  rw [e]
  exact k _ (List.getElem_mem hj)
abbrev nmPIsList : List Str := ["thing"]
theorem scPIsList : FnScope nmPIsList ["thing"] (defScope sPIsList) := ⟨rfl, rfl, rfl, by decide +kernel, rfl, by decide +kernel, by decide +kernel⟩
theorem okPIsList {f : Addr} {fd : FuncData} (D : Def K mg "is_list" sPIsList ["thing"] f fd) (T : Txt K mg) :
    FnOk P w K mg base CX0 1 f fd ["thing"] (liftSp K pspIsList) := by
  refine fnP D.F scPIsList (fun cdv A outer s H E hr R => (bw_one (sw_ret (ew_isiT (ew_var 0) (tys_cons (T := .list) (tys_cons (T := .tuple) tys_nil T.tuple (by decide +kernel)) T.list (by decide +kernel)) T.isi)))) (fun dvs O PQ q => ?_)
  obtain ⟨x, rfl, rfl, k⟩ := q
  refine ⟨rfl, ?_⟩
  cases x <;> exact k
abbrev nmPIsInt : List Str := ["thing"]
theorem scPIsInt : FnScope nmPIsInt ["thing"] (defScope sPIsInt) := ⟨rfl, rfl, rfl, by decide +kernel, rfl, by decide +kernel, by decide +kernel⟩
theorem okPIsInt {f : Addr} {fd : FuncData} (D : Def K mg "is_int" sPIsInt ["thing"] f fd) (T : Txt K mg) :
    FnOk P w K mg base CX0 1 f fd ["thing"] (liftSp K pspIsInt) := by
  refine fnP D.F scPIsInt (fun cdv A outer s H E hr R => (bw_one (sw_ret (ew_and (ew_isi (T := .int) (ew_var 0) T.isi T.int (by decide +kernel)) (ew_one (ew_not (ew_isi (T := .bool) (ew_var 0) T.isi T.bool (by decide +kernel)))))))) (fun dvs O PQ q => ?_)
  obtain ⟨x, rfl, rfl, k⟩ := q
  refine ⟨rfl, ?_⟩
  cases x <;> exact k
end
end PW
namespace PW
open PySem PySem.Spec PyProof.Rows L2
section
variable {P : Program} {w : World} {K : PySem.W.Frag} {mg : Str → Option Value} {base : Heap}
abbrev nmLSame : List Str := ["_law_found", "_law_due", "_law_one", "_law_other"]
theorem scLSame : FnScope nmLSame ["_law_found", "_law_due"] (defScope sLSame) := ⟨rfl, rfl, rfl, by decide +kernel, rfl, by decide +kernel, by decide +kernel⟩
theorem okLSame {f : Addr} {fd : FuncData} (D : Def K mg "_law_same" sLSame ["_law_found", "_law_due"] f fd) (T : Txt K mg) : ∀ n, FnOk P w K mg base CX0 n f fd ["_law_found", "_law_due"] (liftSp K (pspSame n))
  | 0 => ⟨fun vs H Q E h => by obtain ⟨_, _, _, _, _, _, ⟨_, _, _, _, z, _⟩, _⟩ := h; exact absurd z (Nat.not_lt_zero _), fun A outer s H args us vs Q E _ _ _ _ h => by obtain ⟨_, _, _, _, _, _, ⟨_, _, _, _, z, _⟩, _⟩ := h; exact absurd z (Nat.not_lt_zero _)⟩
  | n + 1 => by
    have G := okLSame D T n
    refine fnPd D.F scLSame (fun cdv A outer s H E hr R => (bw_cons (sw_if (tw_tru (ew_isiT (ew_var 1) (tys_cons (T := .list) (tys_cons (T := .tuple) tys_nil T.tuple (by decide +kernel)) T.list (by decide +kernel)) T.isi)) (bw_cons (sw_if (tw_ww (ww_or (tw_cmp (ow_ne (hu65 hr)) (ew_isi (T := .list) (ew_var 0) T.isi T.list (by decide +kernel)) (ew_isi (T := .list) (ew_var 1) T.isi T.list (by decide +kernel))) (ww_or1 (tw_cmp (ow_ne (hu65 hr)) (ew_isi (T := .tuple) (ew_var 0) T.isi T.tuple (by decide +kernel)) (ew_isi (T := .tuple) (ew_var 1) T.isi T.tuple (by decide +kernel)))))) (bw_one (sw_ret ew_bl)) bw_nil)
      (bw_one (sw_ret (ew_and (ew_cmp (ow_eq (hu65 hr)) (ew_blt b_len T.len PySem.boot_len (aw_cons (ew_var 0) aw_nil)) (ew_blt b_len T.len PySem.boot_len (aw_cons (ew_var 1) aw_nil))) (ew_one (ew_blt (b_all rfl) T.all (by decide +kernel) (aw_cons (ew_lc (own := [("_law_one", 2), ("_law_other", 3)]) rfl scLSame.nd (iw_zip T.zip (aw_cons (ew_var 0) (aw_cons (ew_var 1) aw_nil))) (blkOk_by (N := nmLSame) (sc := defScope sLSame) (by decide +kernel)) (fun _ _ _ _ _ _ => (gc_tup (n := 2) rfl (gsc_cons (gc_name (i := 2) (by decide) scLSame.nd) (gsc_cons (gc_name (i := 3) (by decide) scLSame.nd) gsc_nil)))) (fun _ _ _ _ _ _ => ifw_nil) (fun _ _ _ _ _ _ => (ew_call G hr D.m D.F.kp D.b (aw_cons (ew_var 2) (aw_cons (ew_var 3) aw_nil))))) aw_nil))))))) bw_nil)
      (bw_cons (sw_if (tw_tru (ew_isiT (ew_var 1) (tys_cons (T := .bool) (tys_cons (T := .int) tys_nil T.int (by decide +kernel)) T.bool (by decide +kernel)) T.isi)) (bw_one (sw_ret (ew_and (ew_isi (T := .int) (ew_var 0) T.isi T.int (by decide +kernel)) (ew_and (ew_cmp (ow_eq (hu65 hr)) (ew_isi (T := .bool) (ew_var 0) T.isi T.bool (by decide +kernel)) (ew_isi (T := .bool) (ew_var 1) T.isi T.bool (by decide +kernel))) (ew_one (ew_cmp (ow_eq (hu65 hr)) (ew_var 0) (ew_var 1))))))) bw_nil)
      (bw_one (sw_ret (ew_and (ew_not (ew_isiT (ew_var 0) (tys_cons (T := .bool) (tys_cons (T := .int) (tys_cons (T := .list) (tys_cons (T := .tuple) tys_nil T.tuple (by decide +kernel)) T.list (by decide +kernel)) T.int (by decide +kernel)) T.bool (by decide +kernel)) T.isi)) (ew_one (ew_cmp (ow_eq (hu65 hr)) (ew_var 0) (ew_var 1))))))))) (fun dvs O PQ q hp => ?_)
    obtain ⟨x, y, rfl, rfl, hd, hw, k⟩ := q
    have hx : plain x = true := hp x (by simp)
    have hy : plain y = true := hp y (by simp)
    refine ⟨rfl, ?_⟩
    cases y with
    | dict kvs => cases hy
    | none => cases x with
      | dict _ => cases hx
      | none => exact k
      | bool _ => exact k
      | int _ => exact k
      | str _ => exact k
      | list _ => exact k
      | tuple _ => exact k
    | bool b => cases x with
      | dict _ => cases hx
      | none => exact k
      | bool _ => exact k
      | int _ => exact k
      | str _ => exact k
      | list _ => exact k
      | tuple _ => exact k
    | int i => cases x with
      | dict _ => cases hx
      | none => exact k
      | bool _ => exact k
      | int _ => exact k
      | str _ => exact k
      | list _ => exact k
      | tuple _ => exact k
    | str z => cases x with
      | dict _ => cases hx
      | none => exact k
      | bool _ => exact k
      | int _ => exact k
      | str _ => exact k
      | list _ => exact k
      | tuple _ => exact k
    | list ys =>
      cases x with
      | dict _ => cases hx
      | list xs =>
        have hdy : depL ys < n := by rw [dep] at hd; omega
        have hwy : ys.length ≤ 100000 ∧ wdL ys ≤ 100000 := by rw [wd] at hw; omega
        show (match (((xs.length : Nat) : Int) == ((ys.length : Nat) : Int)) with | true => _ | false => _)
        by_cases hl : xs.length = ys.length
        · rw [show (((xs.length : Nat) : Int) == ((ys.length : Nat) : Int)) = true by simp [hl]]
          refine ⟨by show (zipD xs ys).length ≤ 100000; rw [zipD_len]; omega, ?_⟩
          refine lc_map smP ⟨trivial, trivial⟩ _ _ (fun d hd' Q' q' => ?_) ?_
          · obtain ⟨a, b, ha, hb, rfl⟩ := zipD_mem hd'
            have h1 := depL_mem hb
            have h2 := wdL_mem hb
            exact ⟨rfl, rfl, a, b, rfl, rfl, by omega, by omega, q'⟩
          · have hz : boolsOf ([] ++ (zipD xs ys).map smP) = some ((zipD xs ys).map smB) := by rw [List.nil_append, smP_map, boolsOf_map]
            show (match boolsOf ([] ++ (zipD xs ys).map smP) with | some is => _ | none => False)
            rw [hz]
            have e : sm (.list xs) (.list ys) = ((zipD xs ys).map smB).all id := by rw [sm, smL_zip xs ys hl]
            rw [e] at k
            exact k
        · rw [show (((xs.length : Nat) : Int) == ((ys.length : Nat) : Int)) = false from beq_eq_false_iff_ne.mpr (by omega)]
          have e : sm (.list xs) (.list ys) = false := by
            rw [sm]
            cases h : smL xs ys with
            | true => exact (hl (smL_len xs ys h)).elim
            | false => rfl
          rw [e] at k
          exact k
      | none => exact k
      | bool _ => exact k
      | int _ => exact k
      | str _ => exact k
      | tuple _ => exact k
    | tuple ys =>
      cases x with
      | dict _ => cases hx
      | tuple xs =>
        have hdy : depL ys < n := by rw [dep] at hd; omega
        have hwy : ys.length ≤ 100000 ∧ wdL ys ≤ 100000 := by rw [wd] at hw; omega
        show (match (((xs.length : Nat) : Int) == ((ys.length : Nat) : Int)) with | true => _ | false => _)
        by_cases hl : xs.length = ys.length
        · rw [show (((xs.length : Nat) : Int) == ((ys.length : Nat) : Int)) = true by simp [hl]]
          refine ⟨by show (zipD xs ys).length ≤ 100000; rw [zipD_len]; omega, ?_⟩
          refine lc_map smP trivial _ _ (fun d hd' Q' q' => ?_) ?_
          · obtain ⟨a, b, ha, hb, rfl⟩ := zipD_mem hd'
            have h1 := depL_mem hb
            have h2 := wdL_mem hb
            exact ⟨rfl, rfl, a, b, rfl, rfl, by omega, by omega, q'⟩
          · have hz : boolsOf ([] ++ (zipD xs ys).map smP) = some ((zipD xs ys).map smB) := by rw [List.nil_append, smP_map, boolsOf_map]
            show (match boolsOf ([] ++ (zipD xs ys).map smP) with | some is => _ | none => False)
            rw [hz]
            have e : sm (.tuple xs) (.tuple ys) = ((zipD xs ys).map smB).all id := by rw [sm, smL_zip xs ys hl]
            rw [e] at k
            exact k
        · rw [show (((xs.length : Nat) : Int) == ((ys.length : Nat) : Int)) = false from beq_eq_false_iff_ne.mpr (by omega)]
          have e : sm (.tuple xs) (.tuple ys) = false := by
            rw [sm]
            cases h : smL xs ys with
            | true => exact (hl (smL_len xs ys h)).elim
            | false => rfl
          rw [e] at k
          exact k
      | none => exact k
      | bool _ => exact k
      | int _ => exact k
      | str _ => exact k
      | list _ => exact k
end
end PW
namespace PW
open PySem PySem.Spec PyProof.Rows L2
section
variable {P : Program} {w : World} {K : PySem.W.Frag} {mg : Str → Option Value} {base : Heap}

def pspBookOf (K : PySem.W.Frag) (C : Addr) : PSp := fun dvs O Q => ∃ B, dvs = [.x (planψ K B)] ∧ O = [] ∧ HN.GoodBk B ∧ Q (.x (bookψ C (HN.toldB B))) []
abbrev nmLBookOf : List Str := ["_law_plan"]
theorem scLBookOf : FnScope nmLBookOf ["_law_plan"] (defScope sLBookOf) := ⟨rfl, rfl, rfl, by decide +kernel, rfl, by decide +kernel, by decide +kernel⟩
theorem okLBookOf {f : Addr} {fd : FuncData} (D : Def K mg "_law_book_of" sLBookOf ["_law_plan"] f fd) (T : Txt K mg)
    {C fB : Addr} {fdB : FuncData} (M : Mk K C fB) (FB : FunD K "__init__" "Book.__init__" (defArgs HN.sBInit) (defBody HN.sBInit) (defScope HN.sBInit) [] [("worths", .non)] fB fdB) (GB : FnOk P w K mg base CX0 6 fB fdB HN.psBInit (HN.spBInitV K C)) (mgC : mg "Book" = some (.ref C)) :
    FnOk P w K mg base CX0 8 f fd ["_law_plan"] (liftSp K (pspBookOf K C)) := by
  refine fnP D.F scLBookOf (fun cdv A outer s H E hr R => (bw_one (sw_ret (ew_bookP (K := K) rfl M FB GB hr mgC (aw_cons (ew_ixP (K := K) rfl 0 (ew_var 0)) (aw_cons (ew_ixP (K := K) rfl 1 (ew_var 0)) (aw_cons (ew_ixP (K := K) rfl 2 (ew_var 0)) (aw_cons (ew_ixP (K := K) rfl 3 (ew_var 0)) aw_nil)))) (ew_ixP (K := K) rfl 4 (ew_var 0)))))) (fun dvs O PQ q => ?_)
  obtain ⟨B, rfl, rfl, gB, k⟩ := q
  refine ⟨rfl, ?_⟩
  refine ⟨_, rfl, _, rfl, _, rfl, _, rfl, _, rfl, B, rfl, rfl, gB, k⟩
end
end PW
namespace PW
open PySem PySem.Spec PyProof.Rows L2
section
variable {P : Program} {w : World} {K : PySem.W.Frag} {mg : Str → Option Value} {base : Heap}

theorem shaped_strs {ws : List Str} (h : ∀ z ∈ ws, (PyData.str z).canLay0 = true) : SeqAt.shaped (.list (ws.map PyData.str)) = true := by
  have key : ∀ ws : List Str, (∀ z ∈ ws, (PyData.str z).canLay0 = true) → PyData.canLayAll0 (ws.map PyData.str) = true ∧ PyData.depthAll (ws.map PyData.str) = 0 := by
    intro ws
    induction ws with
    | nil => intro _; exact ⟨rfl, rfl⟩
    | cons x xs ih =>
      intro h
      obtain ⟨h1, h2⟩ := ih fun z hz => h z (List.mem_cons_of_mem _ hz)
      have h0 := h x List.mem_cons_self
      rw [List.map_cons]
      simp [PyData.canLayAll0, PyData.depthAll, PyData.depth, h0, h1, h2]
  obtain ⟨h1, h2⟩ := key ws h
  simp [SeqAt.shaped, PyData.canLay0, PyData.depth, h1, h2]
theorem shaped_str {z : Str} (h : (PyData.str z).canLay0 = true) : SeqAt.shaped (.str z) = true := by
  simp [SeqAt.shaped, PyData.depth, h]
theorem any_strs {z : Str} {ws : List Str} (h : z ∈ ws) : ((ws.map PyData.str).any fun y => PyData.eqv y (.str z)) = true := by
  rw [List.any_eq_true]
  refine ⟨.str z, List.mem_map.mpr ⟨z, h, rfl⟩, ?_⟩
  simp [PyData.eqv]
/-- a letter of the book, as a tuple or as a list -/
def IsLt (sorts : List Str) (x : PyData) (a : Str × Int) : Prop := (x = .list [.str a.1, .int a.2] ∨ x = .tuple [.str a.1, .int a.2]) ∧ a.1 ∈ sorts
def strsD (ws : List Str) : PyData := .list (ws.map PyData.str)
def pspIsLetter : PSp := fun dvs O Q => ∃ x sorts a, dvs = [.d x, .d (strsD sorts)] ∧ O = [] ∧ (∀ z ∈ sorts, (PyData.str z).canLay0 = true) ∧ IsLt sorts x a ∧ Q (.d (.bool true)) []
/-- a list or a tuple -/
def SeqD (x : PyData) (xs : List PyData) : Prop := x = .list xs ∨ x = .tuple xs
def pspBadIndex : PSp := fun dvs O Q => ∃ x xs sorts as, dvs = [.d x, .d (strsD sorts)] ∧ O = [] ∧ SeqD x xs ∧ (∀ z ∈ sorts, (PyData.str z).canLay0 = true) ∧ Paired (IsLt sorts) xs as ∧ Q (.d .none) []
def pspCheckRow (C : Addr) : PSp := fun dvs O Q => ∃ (B : HN.Bk) (x : PyData) (xs : List PyData) (as : List (Str × Int)), dvs = [.x (bookψ C B), .d x] ∧ O = [] ∧ SeqD x xs ∧ (∀ z ∈ B.sorts, (PyData.str z).canLay0 = true) ∧ Paired (IsLt B.sorts) xs as ∧ Q (.d .none) []
theorem book_has {C : Addr} {B : HN.Bk} {m : Str} (h : m ∉ (["_traits", "_worths", "_effects", "_first", "_sorts", "_states"] : List Str)) : HasIns C m (bookψ C B) := by
  intro V v ⟨p, e, dx, s, t, e', w, tr, h1, _⟩
  exact ⟨p, dx, _, e, h1, HN.bkF_no s t B.first e' w tr h⟩

theorem word_lay {z : Str} (hw : HN.isWord z = true) : (PyData.str z).canLay0 = true := by
  show PyData.strOk z = true
  simp only [HN.isWord, Bool.and_eq_true] at hw
  have ha : Txt.isascii z = true := hw.2.2.1
  unfold Txt.isascii at ha
  unfold PyData.strOk
  simp only [Array.all_eq_true, decide_eq_true_eq] at ha ⊢
  intro i hi
  have := ha i hi
  omega
theorem words_lay {B : HN.Bk} (g : HN.GoodBk B) : ∀ z ∈ B.sorts, (PyData.str z).canLay0 = true := fun z hz => word_lay (g.2.1.2.2.2 z hz)
theorem states_lay {B : HN.Bk} (g : HN.GoodBk B) : ∀ z ∈ B.states, (PyData.str z).canLay0 = true := fun z hz => word_lay (g.1.2.2.2 z hz)
/-- things that are no letters -/
inductive IsOdd (sorts : List Str) : PyData → Prop
  | none : IsOdd sorts .none
  | int (i : Int) : IsOdd sorts (.int i)
  | bool (b : Bool) : IsOdd sorts (.bool b)
  | str (z : Str) : IsOdd sorts (.str z)
  | nil : IsOdd sorts (.tuple [])
  | one (x : PyData) : IsOdd sorts (.tuple [x])
  | three (x y z : PyData) : IsOdd sorts (.tuple [x, y, z])
  | tru (z : Str) (x : PyData) : z ∈ sorts → isIntD x = false → IsOdd sorts (.tuple [.str z, x])
  | far (y x : PyData) : (∀ u ∈ sorts, PyData.eqv (.str u) y = false) → SeqAt.shaped y = true → IsOdd sorts (.tuple [y, x])
theorem far_str {sorts : List Str} {z : Str} (h : z ∉ sorts) : ∀ u ∈ sorts, PyData.eqv (.str u) (.str z) = false := fun u hu => by
  have : (u == z) = false := beq_eq_false_iff_ne.mpr fun e => h (e ▸ hu)
  exact this
def pspIsListX (K : PySem.W.Frag) : PSp := fun dvs O Q => dvs = [.x (dKψ K [])] ∧ O = [] ∧ Q (.d (.bool false)) []
def pspIsListU (K : PySem.W.Frag) : PSp := fun dvs O Q => pspIsList dvs O Q ∨ pspIsListX K dvs O Q
def pspIsLetterA : PSp := fun dvs O Q => ∃ x sorts, dvs = [.d x, .d (strsD sorts)] ∧ O = [] ∧ (∀ z ∈ sorts, (PyData.str z).canLay0 = true) ∧ ((∃ a, IsLt sorts x a ∧ Q (.d (.bool true)) []) ∨ (IsOdd sorts x ∧ Q (.d (.bool false)) []))
/-- things that are no rows, and the index that tells it -/
inductive BadAt (K : PySem.W.Frag) (sorts : List Str) : DV → Int → Prop
  | dict : BadAt K sorts (.x (dKψ K [])) 0
  | other {y : PyData} : isListD y = false → BadAt K sorts (.d y) 0
  | at_ {y : PyData} {gs : List PyData} {o : PyData} {rest : List PyData} {as : List (Str × Int)} {i : Int} : SeqD y (gs ++ o :: rest) → Paired (IsLt sorts) gs as → IsOdd sorts o → i = (gs.length : Int) → BadAt K sorts (.d y) i
def pspBadIndexA (K : PySem.W.Frag) : PSp := fun dvs O Q => ∃ x sorts, dvs = [x, .d (strsD sorts)] ∧ O = [] ∧ (∀ z ∈ sorts, (PyData.str z).canLay0 = true) ∧
  ((∃ y ys as, x = .d y ∧ SeqD y ys ∧ Paired (IsLt sorts) ys as ∧ Q (.d .none) []) ∨ (∃ i, BadAt K sorts x i ∧ Q (.d (.int i)) []))
theorem okPIsListX {f : Addr} {fd : FuncData} (D : Def K mg "is_list" sPIsList ["thing"] f fd) (T : Txt K mg) :
    FnOk P w K mg base CX0 1 f fd ["thing"] (liftSp K (pspIsListX K)) := by
  refine fnP D.F scPIsList (fun cdv A outer s H E hr R => (bw_one (sw_ret (ew_isiD (K := K) rfl (ew_var 0) (tys_cons (T := .list) (tys_cons (T := .tuple) tys_nil T.tuple (by decide +kernel)) T.list (by decide +kernel)) T.isi)))) (fun dvs O PQ q => ?_)
  obtain ⟨rfl, rfl, k⟩ := q
  exact ⟨rfl, [], rfl, k⟩
abbrev nmPIsLetter : List Str := ["thing", "sorts"]
theorem scPIsLetter : FnScope nmPIsLetter ["thing", "sorts"] (defScope sPIsLetter) := ⟨rfl, rfl, rfl, by decide +kernel, rfl, by decide +kernel, by decide +kernel⟩
theorem okPIsLetter {f : Addr} {fd : FuncData} (D : Def K mg "is_letter" sPIsLetter ["thing", "sorts"] f fd) (T : Txt K mg)
    {fPIsInt : Addr} {fdPIsInt : FuncData} (DPIsInt : Def K mg "is_int" sPIsInt ["thing"] fPIsInt fdPIsInt) (GPIsInt : FnOk P w K mg base CX0 1 fPIsInt fdPIsInt ["thing"] (liftSp K pspIsInt))
    {fPIsList : Addr} {fdPIsList : FuncData} (DPIsList : Def K mg "is_list" sPIsList ["thing"] fPIsList fdPIsList) (GPIsList : FnOk P w K mg base CX0 1 fPIsList fdPIsList ["thing"] (liftSp K pspIsList)) :
    FnOk P w K mg base CX0 2 f fd ["thing", "sorts"] (liftSp K pspIsLetterA) := by
  refine fnP D.F scPIsLetter (fun cdv A outer s H E hr R => (bw_one (sw_ret (ew_and (ew_call GPIsList (hr.mono (by decide)) DPIsList.m DPIsList.F.kp DPIsList.b (aw_cons (ew_var 0) aw_nil)) (ew_and (ew_cmp (ow_eq (hu65 hr)) (ew_blt b_len T.len PySem.boot_len (aw_cons (ew_var 0) aw_nil)) ew_int) (ew_and (ew_cmp (ow_in (hu65 hr)) (ew_ix (ew_var 0) ew_int) (ew_var 1)) (ew_one (ew_call GPIsInt (hr.mono (by decide)) DPIsInt.m DPIsInt.F.kp DPIsInt.b (aw_cons (ew_ix (ew_var 0) ew_int) aw_nil))))))))) (fun dvs O PQ q => ?_)
  obtain ⟨x, sorts, rfl, rfl, hz, h⟩ := q
  refine ⟨rfl, ?_⟩
  refine ⟨rfl, x, rfl, rfl, ?_⟩
  rcases h with ⟨a, ⟨hx, hs⟩, k⟩ | ⟨ho, k⟩
  · rcases hx with rfl | rfl
    all_goals
      refine ⟨shaped_str (hz _ hs), shaped_strs hz, ?_⟩
      conv => whnf
      rw [any_strs hs]
      exact ⟨rfl, _, rfl, rfl, k⟩
  · cases ho with
    | none => exact k
    | int i => exact k
    | bool i => exact k
    | str z => exact k
    | nil => exact k
    | one x => exact k
    | three x y z => exact k
    | tru z x hs hx =>
      refine ⟨shaped_str (hz _ hs), shaped_strs hz, ?_⟩
      conv => whnf
      rw [any_strs hs]
      refine ⟨rfl, _, rfl, rfl, ?_⟩
      rw [hx]
      exact k
    | far y x hs hl =>
      refine ⟨hl, shaped_strs hz, ?_⟩
      have e : ((sorts.map PyData.str).any fun z => PyData.eqv z y) = false := by
        rw [List.any_eq_false]
        intro z hz
        obtain ⟨u, hu, rfl⟩ := List.mem_map.mp hz
        rw [hs u hu]
        decide
      conv => whnf
      rw [e]
      exact k
abbrev nmPBadIndex : List Str := ["thing", "sorts", "index", "part"]
theorem scPBadIndex : FnScope nmPBadIndex ["thing", "sorts"] (defScope sPBadIndex) := ⟨rfl, rfl, rfl, by decide +kernel, rfl, by decide +kernel, by decide +kernel⟩
theorem okPBadIndex {f : Addr} {fd : FuncData} (D : Def K mg "bad_index" sPBadIndex ["thing", "sorts"] f fd) (T : Txt K mg)
    {fPIsLetter : Addr} {fdPIsLetter : FuncData} (DPIsLetter : Def K mg "is_letter" sPIsLetter ["thing", "sorts"] fPIsLetter fdPIsLetter) (GPIsLetter : FnOk P w K mg base CX0 2 fPIsLetter fdPIsLetter ["thing", "sorts"] (liftSp K pspIsLetterA))
    {fPIsList : Addr} {fdPIsList : FuncData} (DPIsList : Def K mg "is_list" sPIsList ["thing"] fPIsList fdPIsList) (GPIsListU : FnOk P w K mg base CX0 1 fPIsList fdPIsList ["thing"] (liftSp K (pspIsListU K))) :
    FnOk P w K mg base CX0 3 f fd ["thing", "sorts"] (liftSp K (pspBadIndexA K)) := by
  refine fnP D.F scPBadIndex (fun cdv A outer s H E hr R => (bw_cons (sw_if (tw_not (tw_tru (ew_call GPIsListU (hr.mono (by decide)) DPIsList.m DPIsList.F.kp DPIsList.b (aw_cons (ew_var 0) aw_nil)))) (bw_one (sw_ret ew_int)) bw_nil)
      (bw_cons (sw_for PassesOwn.never rfl (iw_enumB T.enumerate (aw_cons (ew_var 0) aw_nil)) (gw_tup (n := 2) rfl (gsw_cons (gw_name (i := 2) scPBadIndex.nd) (gsw_cons (gw_name (i := 3) scPBadIndex.nd) gsw_nil))) (bw_one (sw_if (tw_not (tw_tru (ew_call GPIsLetter (hr.mono (by decide)) DPIsLetter.m DPIsLetter.F.kp DPIsLetter.b (aw_cons (ew_var 3) (aw_cons (ew_var 1) aw_nil))))) (bw_one (sw_ret (ew_var 2))) bw_nil)))
      (bw_one (sw_ret ew_non))))) (fun dvs O PQ q => ?_)
  obtain ⟨x, sorts, rfl, rfl, hz, h⟩ := q
  refine ⟨rfl, ?_⟩
  rcases h with ⟨y, ys, as, rfl, hy, hp, k⟩ | ⟨i, hb, k⟩
  · rcases hy with rfl | rfl
    all_goals
      refine ⟨rfl, .inl ⟨_, rfl, rfl, ?_⟩⟩
      refine loop_ind (fun ds Γ O => ∃ (zs : List PyData) (es : List (Str × Int)) (n : Nat) (u0 u v : Option DV), ds = enumD n zs ∧ Paired (IsLt sorts) zs es ∧ Γ = [u0, some (.d (strsD sorts)), u, v] ∧ O = []) (fun Γ O j => ?_) (fun d ds Γ O j ih => ?_) _ _ _ ⟨ys, as, 0, _, none, none, rfl, hp, rfl, rfl⟩
      · obtain ⟨zs, es, n, u0, u, v, h1, h2, rfl, rfl⟩ := j
        exact ⟨trivial, k⟩
      · obtain ⟨zs, es, n, u0, u, v, h1, h2, rfl, rfl⟩ := j
        cases zs with
        | nil => cases h1
        | cons z zs =>
          cases h1
          cases h2 with
          | cons e1 e2 => exact ⟨trivial, rfl, rfl, z, sorts, rfl, rfl, hz, .inl ⟨_, e1, ih _ _ ⟨zs, _, n + 1, _, _, _, rfl, e2, rfl, rfl⟩⟩⟩
  · cases hb with
    | dict => exact ⟨rfl, .inr ⟨rfl, rfl, k⟩⟩
    | other hy =>
      refine ⟨rfl, .inl ⟨_, rfl, rfl, ?_⟩⟩
      rw [hy]
      exact k
    | @at_ y gs o rest as _ hy hp ho hi =>
      rcases hy with rfl | rfl
      all_goals
        refine ⟨rfl, .inl ⟨_, rfl, rfl, ?_⟩⟩
        refine loop_ind (fun ds Γ O => ∃ (gs : List PyData) (as : List (Str × Int)) (n : Nat) (u0 u v : Option DV), ds = enumD n (gs ++ o :: rest) ∧ Paired (IsLt sorts) gs as ∧ i = (n : Int) + (gs.length : Int) ∧ Γ = [u0, some (.d (strsD sorts)), u, v] ∧ O = []) (fun Γ O j => ?_) (fun d ds Γ O j ih => ?_) _ _ _ ⟨gs, as, 0, _, none, none, rfl, hp, by rw [hi]; simp, rfl, rfl⟩
        · obtain ⟨zs, es, n, u0, u, v, h1, h2, h3, rfl, rfl⟩ := j
          cases zs <;> cases h1
        · obtain ⟨zs, es, n, u0, u, v, h1, h2, h3, rfl, rfl⟩ := j
          cases zs with
          | nil =>
            cases h1
            have h4 : i = (n : Int) := by simpa using h3
            rw [h4] at k
            exact ⟨trivial, rfl, rfl, o, sorts, rfl, rfl, hz, .inr ⟨ho, k⟩⟩
          | cons z zs =>
            cases h1
            cases h2 with
            | cons e1 e2 => exact ⟨trivial, rfl, rfl, z, sorts, rfl, rfl, hz, .inl ⟨_, e1, ih _ _ ⟨zs, _, n + 1, _, _, _, rfl, e2, by rw [h3, List.length_cons]; omega, rfl, rfl⟩⟩⟩
abbrev nmPCheckRow : List Str := ["book", "thing", "index"]
theorem scPCheckRow : FnScope nmPCheckRow ["book", "thing"] (defScope sPCheckRow) := ⟨rfl, rfl, rfl, by decide +kernel, rfl, by decide +kernel, by decide +kernel⟩
theorem okPCheckRow {f : Addr} {fd : FuncData} (D : Def K mg "check_row" sPCheckRow ["book", "thing"] f fd) (T : Txt K mg)
    {fPBadIndex : Addr} {fdPBadIndex : FuncData} (DPBadIndex : Def K mg "bad_index" sPBadIndex ["thing", "sorts"] fPBadIndex fdPBadIndex) (GPBadIndex : FnOk P w K mg base CX0 3 fPBadIndex fdPBadIndex ["thing", "sorts"] (liftSp K (pspBadIndexA K)))
    {C : Addr} (BC : HN.BookC K mg C) {fBSorts : Addr} {fdBSorts : FuncData} (MBSorts : Meth K C "sorts" fBSorts) (LBSorts : FnOk P w K mg base CX0 1 fBSorts fdBSorts ["self"] (liftSp K (pspBSorts C))) (bBSorts : Binds K fdBSorts ["self"] []) :
    FnOk P w K mg base CX0 4 f fd ["book", "thing"] (liftSp K (pspCheckRow C)) := by
  refine fnP D.F scPCheckRow (fun cdv A outer s H E hr R => (bw_cons (sw_set (i := 2) scPCheckRow.nd (ew_call GPBadIndex (hr.mono (by decide)) DPBadIndex.m DPBadIndex.F.kp DPBadIndex.b (aw_cons (ew_var 1) (aw_cons (ew_methI0 BC.cl MBSorts LBSorts (hr.mono (by decide)) bBSorts (ew_var 0)) aw_nil))))
      (bw_one (sw_if (tw_cmp ow_isNot (ew_var 2) ew_non) (bw_one sw_never) bw_nil)))) (fun dvs O PQ q => ?_)
  obtain ⟨B, x, xs, as, rfl, rfl, hx, hz, hp, k⟩ := q
  refine ⟨rfl, ?_⟩
  refine ⟨⟨_, rfl, book_has (by decide +kernel)⟩, rfl, B, rfl, rfl, ?_⟩
  refine ⟨rfl, .d x, B.sorts, rfl, rfl, hz, .inl ⟨x, xs, as, rfl, hx, hp, ?_⟩⟩
  exact k
end
end PW
namespace PW
open PySem PySem.Spec PyProof.Rows L2
section
variable {P : Program} {w : World} {K : PySem.W.Frag} {mg : Str → Option Value} {base : Heap}

def prD (p : Str × Str) : PyData := .tuple [.str p.1, .str p.2]
def sprD (l : List (Str × Str)) : PyData := .tuple (l.map prD)
def lowerSp : List (Str × Str) := [("below", "elder"), ("between", "newer"), ("held", "same"), ("newest", "newer"), ("top", "newer")]
def newestSp : List (Str × Str) := [("below", "elder"), ("newest", "same"), ("top", "newer")]
def noneSp : List (Str × Str) := [("between", "newer"), ("newest", "newer"), ("top", "newer")]
def firstSp : List (Str × Str) := [("top", "newer")]
def spotsTbl : List (Str × PyData) := [("lower", sprD lowerSp), ("newest", sprD newestSp), ("none", sprD noneSp)]
def okPl (s : Std) : Prop := s.place = "none" ∨ s.place = "newest" ∨ s.place = "lower"
def placeSp (p : Str) : List (Str × Str) := if p = "lower" then lowerSp else if p = "newest" then newestSp else noneSp
def spotsFor (s : Std) : List (Str × Str) := match s.come with
  | [] => firstSp
  | _ :: _ => placeSp s.place
def pspFirstStanding (C : Addr) : PSp := fun dvs O Q => ∃ (B : HN.Bk), dvs = [.x (bookψ C B)] ∧ O = [] ∧ Q (.d (stdD ⟨B.first, "none", [], false⟩)) []
def pspSpotsAt : PSp := fun dvs O Q => ∃ s, dvs = [.d (stdD s)] ∧ O = [] ∧ okPl s ∧ Q (.d (sprD (spotsFor s))) []
def pspSpotOf : PSp := fun dvs O Q => ∃ (n : Int) (nw hd : Option Int), dvs = [.d (.int n), .d (endD nw), .d (endD hd)] ∧ O = [] ∧ Q (.d (.str (spotOf n nw hd))) []
def pspKeyAt : PSp := fun dvs O Q => ∃ (s : Std) (spot sort age : Str), dvs = [.d (stdD s), .d (.str spot), .d (.str sort)] ∧ O = [] ∧ okPl s ∧ (spotsFor s).lookup spot = some age ∧ Q (.d (.tuple [.str s.st, .str sort, .str age])) []
def ageOfD : DV → PyData
  | .d (.tuple [_, y]) => y
  | _ => .none
def isSpD (spot : Str) : DV → Bool
  | .d (.tuple [.str x, _]) => x == spot
  | _ => false
theorem ages_first {spot age : Str} : ∀ {l : List (Str × Str)}, l.lookup spot = some age → atI ((((l.map prD).map DV.d).filter (isSpD spot)).map ageOfD) 0 = some (.str age)
  | [], h => by cases h
  | (x, y) :: l, h => by
    rw [List.lookup_cons] at h
    rw [List.map_cons, List.map_cons, List.filter_cons]
    cases q : spot == x with
    | true =>
      rw [q] at h
      cases h
      have : spot = x := eq_of_beq q
      subst this
      rw [if_pos (show isSpD spot (DV.d (prD (spot, age))) = true from beq_self_eq_true spot), List.map_cons]
      exact atI_nat (j := 0) rfl
    | false =>
      rw [q] at h
      have hn : (x == spot) = false := by
        rw [beq_eq_false_iff_ne] at q ⊢
        exact fun z => q z.symm
      rw [if_neg (by rw [show isSpD spot (DV.d (prD (x, y))) = false from hn]; simp)]
      exact ages_first h
abbrev nmPFirstStanding : List Str := ["book"]
theorem scPFirstStanding : FnScope nmPFirstStanding ["book"] (defScope sPFirstStanding) := ⟨rfl, rfl, rfl, by decide +kernel, rfl, by decide +kernel, by decide +kernel⟩
theorem okPFirstStanding {f : Addr} {fd : FuncData} (D : Def K mg "first_standing" sPFirstStanding ["book"] f fd) (T : Txt K mg)
    {C : Addr} (BC : HN.BookC K mg C) {fBFirst : Addr} {fdBFirst : FuncData} (MBFirst : Meth K C "first" fBFirst) (LBFirst : FnOk P w K mg base CX0 1 fBFirst fdBFirst ["self"] (liftSp K (pspBFirst C))) (bBFirst : Binds K fdBFirst ["self"] []) :
    FnOk P w K mg base CX0 2 f fd ["book"] (liftSp K (pspFirstStanding C)) := by
  refine fnP D.F scPFirstStanding (fun cdv A outer s H E hr R => (bw_one (sw_ret (ew_tup (aw_cons (ew_methI0 BC.cl MBFirst LBFirst (hr.mono (by decide)) bBFirst (ew_var 0)) (aw_cons ew_str (aw_cons (ew_tup aw_nil) (aw_cons ew_bl aw_nil)))))))) (fun dvs O PQ q => ?_)
  obtain ⟨B, rfl, rfl, k⟩ := q
  refine ⟨rfl, ?_⟩
  exact ⟨⟨_, rfl, book_has (by decide +kernel)⟩, rfl, B, rfl, rfl, k⟩
abbrev nmPSpotsAt : List Str := ["standing"]
theorem scPSpotsAt : FnScope nmPSpotsAt ["standing"] (defScope sPSpotsAt) := ⟨rfl, rfl, rfl, by decide +kernel, rfl, by decide +kernel, by decide +kernel⟩
theorem okPSpotsAt {f : Addr} {fd : FuncData} (D : Def K mg "spots_at" sPSpotsAt ["standing"] f fd) (T : Txt K mg) (TS : TabC K mg w "SPOTS" spotsTbl) {vF : L2.V} {uF : Value} (M_FIRST_SPOTS : ModC K mg "FIRST_SPOTS" (sprD firstSp) vF uF) :
    FnOk P w K mg base CX0 1 f fd ["standing"] (liftSp K pspSpotsAt) := by
  refine fnP D.F scPSpotsAt (fun cdv A outer s H E hr R => (bw_one (sw_ret (ew_if (tw_tru (ew_ix (ew_var 0) ew_int)) (ew_ixTab TS (ew_ix (ew_var 0) ew_int)) (ew_glob M_FIRST_SPOTS.m (by rfl) M_FIRST_SPOTS.r M_FIRST_SPOTS.d))))) (fun dvs O PQ q => ?_)
  obtain ⟨⟨st, place, come, rung⟩, rfl, rfl, hp, k⟩ := q
  refine ⟨rfl, ?_⟩
  cases come with
  | nil => exact k
  | cons c cs =>
    have hp' : place = "none" ∨ place = "newest" ∨ place = "lower" := hp
    rcases hp' with rfl | rfl | rfl <;> exact k
abbrev nmPSpotOf : List Str := ["number", "newest", "held"]
theorem scPSpotOf : FnScope nmPSpotOf ["number", "newest", "held"] (defScope sPSpotOf) := ⟨rfl, rfl, rfl, by decide +kernel, rfl, by decide +kernel, by decide +kernel⟩
theorem okPSpotOf {f : Addr} {fd : FuncData} (D : Def K mg "spot_of" sPSpotOf ["number", "newest", "held"] f fd) (T : Txt K mg) :
    FnOk P w K mg base CX0 1 f fd ["number", "newest", "held"] (liftSp K pspSpotOf) := by
  refine fnP D.F scPSpotOf (fun cdv A outer s H E hr R => (bw_cons (sw_if (tw_ww (ww_or (tw_cmp ow_is (ew_var 1) ew_non) (ww_or1 (tw_cmp ow_gt (ew_var 0) (ew_var 1))))) (bw_one (sw_ret ew_str)) bw_nil)
      (bw_cons (sw_if (tw_cmp (ow_eq (hu65 hr)) (ew_var 0) (ew_var 1)) (bw_one (sw_ret ew_str)) bw_nil)
      (bw_cons (sw_if (tw_ww (ww_or (tw_cmp ow_is (ew_var 2) ew_non) (ww_or1 (tw_cmp ow_gt (ew_var 0) (ew_var 2))))) (bw_one (sw_ret ew_str)) bw_nil)
      (bw_one (sw_ret (ew_if (tw_cmp (ow_eq (hu65 hr)) (ew_var 0) (ew_var 2)) ew_str ew_str))))))) (fun dvs O PQ q => ?_)
  obtain ⟨n, nw, hd, rfl, rfl, k⟩ := q
  refine ⟨rfl, ?_⟩
  cases nw with
  | none => exact k
  | some m =>
    show (match decide (n > m) with | true => _ | false => _)
    by_cases h1 : n > m
    · rw [decide_eq_true h1]
      rw [show spotOf n (some m) hd = "top" from if_pos h1] at k
      exact k
    · rw [decide_eq_false h1]
      show (match (n == m) with | true => _ | false => _)
      by_cases h2 : n = m
      · rw [show spotOf n (some m) hd = "newest" from by unfold spotOf; dsimp only; rw [if_neg h1, if_pos h2]] at k
        subst h2
        rw [beq_self_eq_true]
        exact k
      · rw [beq_eq_false_iff_ne.mpr h2]
        cases hd with
        | none =>
          rw [show spotOf n (some m) none = "between" from by unfold spotOf; dsimp only; rw [if_neg h1, if_neg h2]] at k
          exact k
        | some h =>
          show (match decide (n > h) with | true => _ | false => _)
          by_cases h3 : n > h
          · rw [decide_eq_true h3]
            rw [show spotOf n (some m) (some h) = "between" from by unfold spotOf; dsimp only; rw [if_neg h1, if_neg h2, if_pos h3]] at k
            exact k
          · rw [decide_eq_false h3]
            show (match (n == h) with | true => _ | false => _)
            by_cases h4 : n = h
            · rw [show spotOf n (some m) (some h) = "held" from by unfold spotOf; dsimp only; rw [if_neg h1, if_neg h2, if_neg h3, if_pos h4]] at k
              subst h4
              rw [beq_self_eq_true]
              exact k
            · rw [show spotOf n (some m) (some h) = "below" from by unfold spotOf; dsimp only; rw [if_neg h1, if_neg h2, if_neg h3, if_neg h4]] at k
              rw [beq_eq_false_iff_ne.mpr h4]
              exact k
abbrev nmPKeyAt : List Str := ["standing", "spot", "sort", "ages", "other", "age"]
theorem scPKeyAt : FnScope nmPKeyAt ["standing", "spot", "sort"] (defScope sPKeyAt) := ⟨rfl, rfl, rfl, by decide +kernel, rfl, by decide +kernel, by decide +kernel⟩
theorem okPKeyAt {f : Addr} {fd : FuncData} (D : Def K mg "key_at" sPKeyAt ["standing", "spot", "sort"] f fd) (T : Txt K mg)
    {fPSpotsAt : Addr} {fdPSpotsAt : FuncData} (DPSpotsAt : Def K mg "spots_at" sPSpotsAt ["standing"] fPSpotsAt fdPSpotsAt) (GPSpotsAt : FnOk P w K mg base CX0 1 fPSpotsAt fdPSpotsAt ["standing"] (liftSp K pspSpotsAt)) :
    FnOk P w K mg base CX0 2 f fd ["standing", "spot", "sort"] (liftSp K pspKeyAt) := by
  refine fnP D.F scPKeyAt (fun cdv A outer s H E hr R => (bw_cons (sw_setLc (i := 3) (own := [("other", 4), ("age", 5)]) rfl scPKeyAt.nd (iw_seq (ew_call GPSpotsAt (hr.mono (by decide)) DPSpotsAt.m DPSpotsAt.F.kp DPSpotsAt.b (aw_cons (ew_var 0) aw_nil))) (blkOk_by (N := nmPKeyAt) (sc := defScope sPKeyAt) (by decide +kernel)) (fun _ _ _ _ _ _ => (gc_tup (n := 2) rfl (gsc_cons (gc_name (i := 4) (by decide) scPKeyAt.nd) (gsc_cons (gc_name (i := 5) (by decide) scPKeyAt.nd) gsc_nil)))) (fun _ _ _ _ _ _ => (ifw_one (tw_cmp (ow_eq (hu65 hr)) (ew_var 4) (ew_var 1)))) (fun _ _ _ _ _ _ => (ew_var 5)))
      (bw_one (sw_ret (ew_tup (aw_cons (ew_ix (ew_var 0) ew_int) (aw_cons (ew_var 2) (aw_cons (ew_ix (ew_var 3) ew_int) aw_nil)))))))) (fun dvs O PQ q => ?_)
  obtain ⟨s, spot, sort, age, rfl, rfl, hp, hl, k⟩ := q
  refine ⟨rfl, ?_⟩
  refine ⟨rfl, s, rfl, rfl, hp, ?_⟩
  have hlen : (spotsFor s).length ≤ 5 := by
    unfold spotsFor placeSp
    split
    · decide
    · split
      · decide
      · split <;> decide
  refine ⟨by show (((spotsFor s).map prD).map DV.d).length ≤ 100000; simp; omega, ?_⟩
  refine lc_filt ageOfD (isSpD spot) trivial _ [] (fun d hd A B hA hB => ?_) ?_
  · obtain ⟨y, hy, rfl⟩ := List.mem_map.mp hd
    obtain ⟨⟨o, a⟩, _, rfl⟩ := List.mem_map.mp hy
    refine ⟨rfl, ?_⟩
    show (match (o == spot) with | true => _ | false => _)
    cases h : (o == spot) with
    | true => exact hA h
    | false => exact hB h
  rw [List.nil_append]
  conv => whnf
  rw [ages_first hl]
  exact k
end
end PW
namespace PW
open PySem PySem.Spec PyProof.Rows L2
section
variable {P : Program} {w : World} {K : PySem.W.Frag} {mg : Str → Option Value} {base : Heap}

/-- the standing behind a letter -/
structure Behind (s : Std) (spot sort : Str) (e : HN.Eff) (s' : Std) : Prop where
  st : s'.st = e.nx
  place : s'.place = if e.hold = true then (if spot = "top" ∨ spot = "newest" then ("newest" : Str) else "lower") else if spot = "top" ∧ s.place = "newest" then ("lower" : Str) else s.place
  rung : s'.rung = if spot = "top" then e.ring else if spot = "newest" then (s.rung || e.ring) else s.rung
  top : spot = "top" → s'.come = [sort]
  old : spot = "newest" → sort ∈ s.come → s'.come = s.come
  new : spot = "newest" → sort ∉ s.come → s'.come.Perm (s.come ++ [sort]) ∧ sortedS s'.come = true
  other : spot ≠ "top" → spot ≠ "newest" → s'.come = s.come
def pspBehind : PSp := fun dvs O Q => ∃ (s : Std) (spot sort : Str) (e : HN.Eff), dvs = [.d (stdD s), .d (.str spot), .d (.str sort), .d (HN.effD e)] ∧ O = [] ∧ okPl s ∧ s.come.length < 60 ∧ (spot = "newest" → s.come ≠ []) ∧ ∀ s', Behind s spot sort e s' → Q (.d (stdD s')) []
theorem any_dec (z : Str) : ∀ ws : List Str, ((ws.map PyData.str).any fun y => PyData.eqv y (.str z)) = decide (z ∈ ws)
  | [] => by simp
  | w :: ws => by
    rw [List.map_cons, List.any_cons, any_dec z ws]
    by_cases h : w = z
    · subst h
      simp [PyData.eqv]
    · have : (w == z) = false := beq_eq_false_iff_ne.mpr h
      rw [show PyData.eqv (.str w) (.str z) = false from this]
      by_cases h2 : z ∈ ws
      · simp [h2]
      · simp [h2]
        exact fun e => h e.symm
theorem flat_all (ws : List Str) : (ws.map PyData.str).all flatD = true := by
  rw [List.all_eq_true]
  intro x hx
  obtain ⟨w, _, rfl⟩ := List.mem_map.mp hx
  rfl
abbrev nmPStandingBehind : List Str := ["standing", "spot", "sort", "effect", "state", "holds", "rings", "_", "place", "come", "rung"]
theorem scPStandingBehind : FnScope nmPStandingBehind ["standing", "spot", "sort", "effect"] (defScope sPStandingBehind) := ⟨rfl, rfl, rfl, by decide +kernel, rfl, by decide +kernel, by decide +kernel⟩
theorem okPStandingBehind {f : Addr} {fd : FuncData} (D : Def K mg "standing_behind" sPStandingBehind ["standing", "spot", "sort", "effect"] f fd) (T : Txt K mg) :
    FnOk P w K mg base CX0 1 f fd ["standing", "spot", "sort", "effect"] (liftSp K pspBehind) := by
  refine fnP D.F scPStandingBehind (fun cdv A outer s H E hr R => (bw_cons (sw_asg (ew_var 3) (gw_tup (n := 4) rfl (gsw_cons (gw_name (i := 4) scPStandingBehind.nd) (gsw_cons (gw_name (i := 5) scPStandingBehind.nd) (gsw_cons (gw_name (i := 6) scPStandingBehind.nd) (gsw_cons (gw_name (i := 7) scPStandingBehind.nd) gsw_nil))))))
      (bw_cons (sw_asg (ew_var 0) (gw_tup (n := 4) rfl (gsw_cons (gw_name (i := 7) scPStandingBehind.nd) (gsw_cons (gw_name (i := 8) scPStandingBehind.nd) (gsw_cons (gw_name (i := 9) scPStandingBehind.nd) (gsw_cons (gw_name (i := 10) scPStandingBehind.nd) gsw_nil))))))
      (bw_cons (sw_if (tw_cmp (ow_eq (hu65 hr)) (ew_var 1) ew_str) (bw_cons (sw_par (i := 9) (j := 10) rfl scPStandingBehind.nd (aw_cons (ew_tup (aw_cons (ew_var 2) aw_nil)) (aw_cons (ew_var 6) aw_nil)) (fun ha => ps_par (i := 9) (j := 10) rfl scPStandingBehind.nd rfl rfl (by decide) rfl rfl ha rfl))
      (bw_one (sw_set (i := 8) scPStandingBehind.nd (ew_if (tw_cmp (ow_eq (hu65 hr)) (ew_var 8) ew_str) ew_str (ew_var 8))))) (bw_one (sw_if (tw_cmp (ow_eq (hu65 hr)) (ew_var 1) ew_str) (bw_one (sw_par (i := 9) (j := 10) rfl scPStandingBehind.nd (aw_cons (ew_if (tw_cmp (ow_in (hu65 hr)) (ew_var 2) (ew_var 9)) (ew_var 9) (ew_ty b_tuple T.tuple (by decide +kernel) (aw_cons (ew_blt b_sortS T.sorted (by decide +kernel) (aw_cons (ew_bin ow_add (ew_var 9) (ew_tup (aw_cons (ew_var 2) aw_nil))) aw_nil)) aw_nil))) (aw_cons (ew_or (ew_var 10) (ew_one (ew_var 6))) aw_nil)) (fun ha => ps_par (i := 9) (j := 10) rfl scPStandingBehind.nd rfl rfl (by decide) rfl rfl ha rfl))) bw_nil)))
      (bw_cons (sw_if (tw_tru (ew_var 5)) (bw_one (sw_set (i := 8) scPStandingBehind.nd (ew_if (tw_cmp (ow_in (hu65 hr)) (ew_var 1) (ew_tup (aw_cons ew_str (aw_cons ew_str aw_nil)))) ew_str ew_str))) bw_nil)
      (bw_one (sw_ret (ew_tup (aw_cons (ew_var 4) (aw_cons (ew_var 8) (aw_cons (ew_var 9) (aw_cons (ew_var 10) aw_nil)))))))))))) (fun dvs O PQ q => ?_)
  obtain ⟨⟨st, place, come, rung⟩, spot, sort, ⟨nx, hold, ring, step⟩, rfl, rfl, hp, hc, hne, k⟩ := q
  have hp' : place = "none" ∨ place = "newest" ∨ place = "lower" := hp
  refine ⟨rfl, ?_⟩
  refine ⟨rfl, rfl, ?_⟩
  dsimp only [qgCons, qgName, qgNil]
  show qSeq (qIfS _ _ _) _ _ [some (.d (stdD ⟨st, place, come, rung⟩)), some (.d (.str spot)), some (.d (.str sort)), some (.d (HN.effD ⟨nx, hold, ring, step⟩)), some (.d (.str nx)), some (.d (.bool hold)), some (.d (.bool ring)), some (.d (.str st)), some (.d (.str place)), some (.d (.tuple (come.map PyData.str))), some (.d (.bool rung))] []
  generalize stdD ⟨st, place, come, rung⟩ = dd1
  generalize HN.effD ⟨nx, hold, ring, step⟩ = dd2
  show (match (spot == "top") with | true => _ | false => _)
  by_cases h1 : spot = "top"
  · subst h1
    rw [beq_self_eq_true]
    rcases hp' with rfl | rfl | rfl
    all_goals
      cases hold
      · exact k ⟨nx, _, [sort], ring⟩ ⟨rfl, rfl, rfl, fun _ => rfl, fun z => (nomatch z), fun z => (nomatch z), fun z => (z rfl).elim⟩
      · exact ⟨rfl, rfl, k ⟨nx, "newest", [sort], ring⟩ ⟨rfl, rfl, rfl, fun _ => rfl, fun z => (nomatch z), fun z => (nomatch z), fun z => (z rfl).elim⟩⟩
  · rw [beq_eq_false_iff_ne.mpr h1]
    show (match (spot == "newest") with | true => _ | false => _)
    by_cases h2 : spot = "newest"
    · subst h2
      rw [beq_self_eq_true]
      refine ⟨rfl, flat_all come, ?_⟩
      have hrung : ∀ b : Bool, b = (if ("newest" : Str) = "top" then ring else if ("newest" : Str) = "newest" then (rung || ring) else rung) ↔ b = (rung || ring) := fun b => Iff.rfl
      have fin : ∀ c : List Str, (sort ∈ come → c = come) → (sort ∉ come → c.Perm (come ++ [sort]) ∧ sortedS c = true) → ∀ pl : Str, pl = (if hold = true then ("newest" : Str) else place) → PQ (.d (.tuple [.str nx, .str pl, .tuple (c.map PyData.str), .bool (rung || ring)])) [] := fun c c1 c2 pl hpl => k ⟨nx, pl, c, rung || ring⟩ ⟨rfl, by rw [hpl]; cases hold <;> rfl, rfl, fun z => (nomatch z), fun _ => c1, fun _ => c2, fun _ z => (z rfl).elim⟩
      conv => whnf
      rw [any_dec]
      by_cases h3 : sort ∈ come
      · rw [decide_eq_true h3]
        have f1 := fin come (fun _ => rfl) (fun z => (z h3).elim)
        cases rung <;> cases hold
        · exact f1 place rfl
        · exact ⟨rfl, rfl, f1 "newest" rfl⟩
        · exact f1 place rfl
        · exact ⟨rfl, rfl, f1 "newest" rfl⟩
      · rw [decide_eq_false h3]
        have hcn : come.map PyData.str ≠ [] := fun z => hne rfl (List.map_eq_nil_iff.mp z)
        have hc' : come.length < 60 := hc
        refine ⟨by rw [List.length_map]; show come.length + 1 ≤ 100000; omega, ?_⟩
        have e : come.map PyData.str ++ [PyData.str sort] = (come ++ [sort]).map PyData.str := by rw [List.map_append]; rfl
        conv => whnf
        rw [e]
        show (match strsOf ((come ++ [sort]).map PyData.str) with | some zs => _ | none => _)
        rw [strsOf_map]
        refine ⟨by rw [List.length_append]; show come.length + 1 < 64; omega, fun ys pm so => ?_⟩
        have f1 := fin ys (fun z => (h3 z).elim) (fun _ => ⟨pm, so⟩)
        cases rung <;> cases hold
        · exact f1 place rfl
        · exact ⟨rfl, rfl, f1 "newest" rfl⟩
        · exact f1 place rfl
        · exact ⟨rfl, rfl, f1 "newest" rfl⟩
    · rw [beq_eq_false_iff_ne.mpr h2]
      cases hold
      · exact k ⟨nx, place, come, rung⟩ ⟨rfl, by rw [if_neg Bool.false_ne_true, if_neg (fun z => h1 z.1)], by rw [if_neg h1, if_neg h2], fun z => (h1 z).elim, fun z => (h2 z).elim, fun z => (h2 z).elim, fun _ _ => rfl⟩
      · refine ⟨rfl, rfl, ?_⟩
        have e1 : (("top" : Str) == spot) = false := beq_eq_false_iff_ne.mpr fun z => h1 z.symm
        have e2 : (("newest" : Str) == spot) = false := beq_eq_false_iff_ne.mpr fun z => h2 z.symm
        show (match ((("top" : Str) == spot) || ((("newest" : Str) == spot) || false)) with | true => _ | false => _)
        rw [e1, e2]
        exact k ⟨nx, "lower", come, rung⟩ ⟨rfl, by rw [if_pos rfl, if_neg (fun z => z.elim h1 h2)], by rw [if_neg h1, if_neg h2], fun z => (h1 z).elim, fun z => (h2 z).elim, fun z => (h2 z).elim, fun _ _ => rfl⟩
end
end PW
namespace PW
open PySem PySem.Spec PyProof.Rows L2
section
variable {P : Program} {w : World} {K : PySem.W.Frag} {mg : Str → Option Value} {base : Heap}

def moveD (spot sort : Str) (s : Std) (e : HN.Eff) : PyData := .tuple [.str spot, .str sort, stdD s, .bool e.ring, HN.stD e.step]
def pspMoveBy : PSp := fun dvs O Q => ∃ (s : Std) (spot sort : Str) (e : HN.Eff), dvs = [.d (stdD s), .d (.str spot), .d (.str sort), .d (HN.effD e)] ∧ O = [] ∧ okPl s ∧ s.come.length < 60 ∧ (spot = "newest" → s.come ≠ []) ∧ ∀ s', Behind s spot sort e s' → Q (.d (moveD spot sort s' e)) []
/-- the clamp that a move makes of its step -/
def moveC (B : HN.Bk) (s : Std) (e : HN.Eff) (fl cp : Option Int) : Cl := match e.step with
  | some i => ⟨fl, i, cp⟩
  | none => ⟨some (kwI (HN.wOf B.worths s.st - HN.wOf B.worths B.first) fl cp), 0, some (kwI (HN.wOf B.worths s.st - HN.wOf B.worths B.first) fl cp)⟩
def pspClampOfMove (C : Addr) : PSp := fun dvs O Q => ∃ (B : HN.Bk) (spot sort : Str) (s : Std) (e : HN.Eff) (fl cp : Option Int), dvs = [.x (bookψ C B), .d (moveD spot sort s e), .d (endD fl), .d (endD cp)] ∧ O = [] ∧ s.st ∈ B.states ∧ B.first ∈ B.states ∧ Q (.d (.tuple (moveC B s e fl cp).ds)) []
abbrev nmPMoveBy : List Str := ["standing", "spot", "sort", "effect"]
theorem scPMoveBy : FnScope nmPMoveBy ["standing", "spot", "sort", "effect"] (defScope sPMoveBy) := ⟨rfl, rfl, rfl, by decide +kernel, rfl, by decide +kernel, by decide +kernel⟩
theorem okPMoveBy {f : Addr} {fd : FuncData} (D : Def K mg "move_by" sPMoveBy ["standing", "spot", "sort", "effect"] f fd) (T : Txt K mg)
    {fPStandingBehind : Addr} {fdPStandingBehind : FuncData} (DPStandingBehind : Def K mg "standing_behind" sPStandingBehind ["standing", "spot", "sort", "effect"] fPStandingBehind fdPStandingBehind) (GPStandingBehind : FnOk P w K mg base CX0 1 fPStandingBehind fdPStandingBehind ["standing", "spot", "sort", "effect"] (liftSp K pspBehind)) :
    FnOk P w K mg base CX0 2 f fd ["standing", "spot", "sort", "effect"] (liftSp K pspMoveBy) := by
  refine fnP D.F scPMoveBy (fun cdv A outer s H E hr R => (bw_one (sw_ret (ew_tup (aw_cons (ew_var 1) (aw_cons (ew_var 2) (aw_cons (ew_call GPStandingBehind (hr.mono (by decide)) DPStandingBehind.m DPStandingBehind.F.kp DPStandingBehind.b (aw_cons (ew_var 0) (aw_cons (ew_var 1) (aw_cons (ew_var 2) (aw_cons (ew_var 3) aw_nil))))) (aw_cons (ew_ix (ew_var 3) ew_int) (aw_cons (ew_ix (ew_var 3) ew_int) aw_nil))))))))) (fun dvs O PQ q => ?_)
  obtain ⟨s, spot, sort, e, rfl, rfl, hp, hc, hne, k⟩ := q
  refine ⟨rfl, ?_⟩
  exact ⟨rfl, s, spot, sort, e, rfl, rfl, hp, hc, hne, fun s' hs => k s' hs⟩
end
end PW
namespace PW
open PySem PySem.Spec PyProof.Rows L2
/-! ### a row's way: what of the numbers a standing keeps -/
def ageAt (n : Int) (hd : Option Int) : Str := match hd with
  | none => "newer"
  | some h => if n > h then "newer" else if n = h then "same" else "elder"
structure Way (s : Std) (nw hd : Option Int) : Prop where
  pl : okPl s
  come : s.come = [] ↔ nw = none
  none : hd = none ↔ s.place = "none"
  newest : ∀ h, hd = some h → s.place = "newest" → nw = some h
  lower : ∀ h, hd = some h → s.place = "lower" → ∃ n, nw = some n ∧ h < n
theorem way_first (w : Str) : Way ⟨w, "none", [], false⟩ none none := ⟨.inl rfl, ⟨fun _ => rfl, fun _ => rfl⟩, ⟨fun _ => rfl, fun _ => rfl⟩, fun h e => (nomatch e), fun h e => (nomatch e)⟩
theorem way_age {s : Std} {nw hd : Option Int} (w : Way s nw hd) (n : Int) : (spotsFor s).lookup (spotOf n nw hd) = some (ageAt n hd) := by
  obtain ⟨st, place, come, rung⟩ := s
  obtain ⟨w1, w2, w3, w4, w5⟩ := w
  dsimp only at w2 w3 w4 w5
  have w1' : place = "none" ∨ place = "newest" ∨ place = "lower" := w1
  cases nw with
  | none =>
    have hc : come = [] := w2.mpr rfl
    subst hc
    cases hd with
    | none => rfl
    | some h =>
      rcases w1' with rfl | rfl | rfl
      · cases (w3.mpr rfl)
      · cases (w4 h rfl rfl)
      · obtain ⟨m, e, _⟩ := w5 h rfl rfl
        cases e
  | some m =>
    cases come with
    | nil => cases (w2.mp rfl)
    | cons c cs =>
      show (placeSp place).lookup (spotOf n (some m) hd) = some (ageAt n hd)
      unfold spotOf ageAt
      dsimp only
      rcases w1' with rfl | rfl | rfl
      · have hh : hd = none := w3.mpr rfl
        subst hh
        dsimp only
        by_cases h1 : n > m
        · rw [if_pos h1]; rfl
        · rw [if_neg h1]
          by_cases h2 : n = m
          · rw [if_pos h2]; rfl
          · rw [if_neg h2]; rfl
      · cases hd with
        | none => cases (w3.mp rfl)
        | some h =>
          have e := w4 h rfl rfl
          cases e
          dsimp only
          by_cases h1 : n > m
          · rw [if_pos h1, if_pos h1]; rfl
          · by_cases h2 : n = m
            · simp only [if_neg h1, if_pos h2]; rfl
            · simp only [if_neg h1, if_neg h2]; rfl
      · cases hd with
        | none => cases (w3.mp rfl)
        | some h =>
          obtain ⟨m', e, hm⟩ := w5 h rfl rfl
          cases e
          dsimp only
          by_cases h1 : n > m
          · rw [if_pos h1, if_pos (by omega)]; rfl
          · rw [if_neg h1]
            by_cases h2 : n = m
            · rw [if_pos h2, if_pos (by omega)]; rfl
            · rw [if_neg h2]
              by_cases h3 : n > h
              · rw [if_pos h3, if_pos h3]; rfl
              · rw [if_neg h3, if_neg h3]
                by_cases h4 : n = h
                · rw [if_pos h4, if_pos h4]; rfl
                · rw [if_neg h4, if_neg h4]; rfl
theorem spot_cases (n : Int) (nw hd : Option Int) : (spotOf n nw hd = "top" ∧ (nw = none ∨ ∃ m, nw = some m ∧ m < n)) ∨ (spotOf n nw hd = "newest" ∧ nw = some n) ∨ (spotOf n nw hd ≠ "top" ∧ spotOf n nw hd ≠ "newest" ∧ ∃ m, nw = some m ∧ n < m) := by
  cases nw with
  | none => exact .inl ⟨rfl, .inl rfl⟩
  | some m =>
    unfold spotOf
    dsimp only
    by_cases h1 : n > m
    · rw [if_pos h1]
      exact .inl ⟨rfl, .inr ⟨m, rfl, h1⟩⟩
    · rw [if_neg h1]
      by_cases h2 : n = m
      · rw [if_pos h2]
        exact .inr (.inl ⟨rfl, by rw [h2]⟩)
      · rw [if_neg h2]
        refine .inr (.inr ?_)
        cases hd with
        | none =>
          dsimp only
          exact ⟨by decide, by decide, m, rfl, by omega⟩
        | some h =>
          dsimp only
          by_cases h3 : n > h
          · rw [if_pos h3]; exact ⟨by decide, by decide, m, rfl, by omega⟩
          · rw [if_neg h3]
            by_cases h4 : n = h
            · rw [if_pos h4]; exact ⟨by decide, by decide, m, rfl, by omega⟩
            · rw [if_neg h4]; exact ⟨by decide, by decide, m, rfl, by omega⟩
theorem way_behind {s s' : Std} {nw hd : Option Int} (w : Way s nw hd) {n : Int} {sort : Str} {e : HN.Eff} (b : Behind s (spotOf n nw hd) sort e s') :
    Way s' (if spotOf n nw hd = "top" then some n else nw) (if e.hold = true then some n else hd) := by
  obtain ⟨w1, w2, w3, w4, w5⟩ := w
  obtain ⟨b1, b2, b3, b4, b5, b6, b7⟩ := b
  have hn : ("newest" : Str) ≠ "none" := by decide
  have hl : ("lower" : Str) ≠ "none" := by decide
  have hnl : ("newest" : Str) ≠ "lower" := by decide
  rcases spot_cases n nw hd with ⟨c1, c2⟩ | ⟨c1, c2⟩ | ⟨c1, c2, m, c3, c4⟩
  · have hcome := b4 c1
    rw [if_pos c1]
    cases hh : e.hold with
    | true =>
      rw [hh, if_pos rfl, if_pos (.inl c1)] at b2
      rw [if_pos rfl]
      exact ⟨.inr (.inl b2), by rw [hcome]; simp, by rw [b2]; simp [hn], fun h e1 _ => e1, fun h _ e2 => (hnl (b2.symm.trans e2)).elim⟩
    | false =>
      rw [hh, if_neg Bool.false_ne_true] at b2
      rw [if_neg Bool.false_ne_true]
      rcases w1 with p | p | p
      · rw [if_neg (fun z => hn (z.2.symm.trans p))] at b2
        have hd0 := w3.mpr p
        exact ⟨.inl (b2.trans p), by rw [hcome]; simp, by rw [b2, p, hd0]; simp, fun h e1 _ => (nomatch (hd0.symm.trans e1)), fun h e1 _ => (nomatch (hd0.symm.trans e1))⟩
      · rw [if_pos ⟨c1, p⟩] at b2
        refine ⟨.inr (.inr b2), by rw [hcome]; simp, by rw [b2, w3, p]; simp [hn, hl], fun h _ e2 => (hnl (e2.symm.trans b2)).elim, fun h e1 _ => ⟨n, rfl, ?_⟩⟩
        have z := w4 h e1 p
        rcases c2 with c2 | ⟨m, c2, c3⟩
        · rw [c2] at z; cases z
        · rw [c2] at z; cases z; exact c3
      · rw [if_neg (fun z => hnl (z.2.symm.trans p))] at b2
        refine ⟨.inr (.inr (b2.trans p)), by rw [hcome]; simp, by rw [b2]; exact w3, fun h _ e2 => (hnl (e2.symm.trans (b2.trans p))).elim, fun h e1 _ => ⟨n, rfl, ?_⟩⟩
        obtain ⟨m', z, z2⟩ := w5 h e1 p
        rcases c2 with c2 | ⟨m, c2, c3⟩
        · rw [c2] at z; cases z
        · rw [c2] at z; cases z; omega
  · have ct : spotOf n nw hd ≠ "top" := by rw [c1]; decide
    rw [if_neg ct]
    have hne : s.come ≠ [] := fun z => by rw [w2.mp z] at c2; cases c2
    have hcome : s'.come ≠ [] := by
      by_cases hs : sort ∈ s.come
      · rw [b5 c1 hs]; exact hne
      · intro z
        have := (b6 c1 hs).1.length_eq
        rw [z, List.length_append] at this
        simp at this
    have hc2 : (s'.come = [] ↔ nw = none) := ⟨fun z => (hcome z).elim, fun z => by rw [z] at c2; cases c2⟩
    cases hh : e.hold with
    | true =>
      rw [hh, if_pos rfl, if_pos (.inr c1)] at b2
      rw [if_pos rfl]
      exact ⟨.inr (.inl b2), hc2, by rw [b2]; simp [hn], fun h e1 _ => by cases e1; exact c2, fun h _ e2 => (hnl (b2.symm.trans e2)).elim⟩
    | false =>
      rw [hh, if_neg Bool.false_ne_true, if_neg (fun z => ct z.1)] at b2
      rw [if_neg Bool.false_ne_true]
      refine ⟨?_, hc2, by rw [b2]; exact w3, fun h e1 e2 => w4 h e1 (b2.symm.trans e2), fun h e1 e2 => w5 h e1 (b2.symm.trans e2)⟩
      show s'.place = _ ∨ s'.place = _ ∨ s'.place = _
      rw [b2]
      exact w1
  · rw [if_neg c1]
    have hc2 : (s'.come = [] ↔ nw = none) := by rw [b7 c1 c2]; exact w2
    cases hh : e.hold with
    | true =>
      rw [hh, if_pos rfl, if_neg (fun z => z.elim c1 c2)] at b2
      rw [if_pos rfl]
      exact ⟨.inr (.inr b2), hc2, by rw [b2]; simp [hl], fun h _ e2 => (hnl (e2.symm.trans b2)).elim, fun h e1 _ => by cases e1; exact ⟨m, c3, c4⟩⟩
    | false =>
      rw [hh, if_neg Bool.false_ne_true, if_neg (fun z => c1 z.1)] at b2
      rw [if_neg Bool.false_ne_true]
      refine ⟨?_, hc2, by rw [b2]; exact w3, fun h e1 e2 => w4 h e1 (b2.symm.trans e2), fun h e1 e2 => w5 h e1 (b2.symm.trans e2)⟩
      show s'.place = _ ∨ s'.place = _ ∨ s'.place = _
      rw [b2]
      exact w1
end PW

namespace PW
open PySem PySem.Spec PyProof.Rows L2
section
variable {P : Program} {w : World} {K : PySem.W.Frag} {mg : Str → Option Value} {base : Heap}

abbrev sCMovesAlong : Stmt := inClass sPCourse 3
def Goes (ef : HN.K3 → HN.Eff) : Std → Option Int → Option Int → List (Str × Int) → List (Std × Str × Str × HN.Eff × Std) → Prop
  | _, _, _, [], ms => ms = []
  | s, nw, hd, a :: as, ms => ∃ s' rest, Behind s (spotOf a.2 nw hd) a.1 (ef (s.st, a.1, ageAt a.2 hd)) s' ∧ ms = (s, spotOf a.2 nw hd, a.1, ef (s.st, a.1, ageAt a.2 hd), s') :: rest ∧
    Goes ef s' (if spotOf a.2 nw hd = "top" then some a.2 else nw) (if (ef (s.st, a.1, ageAt a.2 hd)).hold = true then some a.2 else hd) as rest
theorem ageAt_mem (n : Int) (hd : Option Int) : ageAt n hd ∈ HN.ages := by
  unfold ageAt HN.ages
  cases hd with
  | none => exact List.mem_cons_self
  | some h =>
    dsimp only
    split
    · exact List.mem_cons_self
    · split
      · exact List.mem_cons_of_mem _ List.mem_cons_self
      · exact List.mem_cons_of_mem _ (List.mem_cons_of_mem _ List.mem_cons_self)
def goneD (m : Std × Str × Str × HN.Eff × Std) : PyData := .tuple [stdD m.1, moveD m.2.1 m.2.2.1 m.2.2.2.2 m.2.2.2.1]
def pspMovesAlong (K : PySem.W.Frag) (C : Addr) : PSp := fun dvs O Q => ∃ (fl : List (Str × DV)) (kvs : List (List Key × PyData)) (s0 : Std) (states sorts : List Str) (ef : HN.K3 → HN.Eff) (x : PyData) (xs : List PyData) (as : List (Str × Int)), dvs = [.x (insψ K C fl), .d x] ∧ O = [] ∧ SeqD x xs ∧
  fl.lookup ("_first" : Str) = some (.d (stdD s0)) ∧ fl.lookup ("_effects" : Str) = some (.x (dTψ K kvs)) ∧ Way s0 none none ∧ s0.st ∈ states ∧ Paired (IsLt sorts) xs as ∧ as.length ≤ 50 ∧
  (∀ st so age, st ∈ states → so ∈ sorts → age ∈ HN.ages → valD kvs (HN.k3 (st, so, age)) = some (HN.effD (ef (st, so, age))) ∧ (ef (st, so, age)).nx ∈ states) ∧ ∀ ms, Goes ef s0 none none as ms → Q (.d (.list (ms.map goneD))) []
abbrev nmCMovesAlong : List Str := ["self", "row", "standing", "newest", "held", "made", "sort", "number", "spot", "effect", "move"]
theorem scCMovesAlong : FnScope nmCMovesAlong ["self", "row"] (defScope sCMovesAlong) := ⟨rfl, rfl, rfl, by decide +kernel, rfl, by decide +kernel, by decide +kernel⟩
theorem okCMovesAlong {f : Addr} {fd : FuncData} (F : Fun K "moves_along" "Course.moves_along" sCMovesAlong f fd) (T : Txt K mg)
    {fPMoveBy : Addr} {fdPMoveBy : FuncData} (DPMoveBy : Def K mg "move_by" sPMoveBy ["standing", "spot", "sort", "effect"] fPMoveBy fdPMoveBy) (GPMoveBy : FnOk P w K mg base CX0 2 fPMoveBy fdPMoveBy ["standing", "spot", "sort", "effect"] (liftSp K pspMoveBy))
    {fPKeyAt : Addr} {fdPKeyAt : FuncData} (DPKeyAt : Def K mg "key_at" sPKeyAt ["standing", "spot", "sort"] fPKeyAt fdPKeyAt) (GPKeyAt : FnOk P w K mg base CX0 2 fPKeyAt fdPKeyAt ["standing", "spot", "sort"] (liftSp K pspKeyAt))
    {fPSpotOf : Addr} {fdPSpotOf : FuncData} (DPSpotOf : Def K mg "spot_of" sPSpotOf ["number", "newest", "held"] fPSpotOf fdPSpotOf) (GPSpotOf : FnOk P w K mg base CX0 1 fPSpotOf fdPSpotOf ["number", "newest", "held"] (liftSp K pspSpotOf))
    {C : Addr} (cl : Cls K C) (na_first : NoAttr K C "_first") (na_effects : NoAttr K C "_effects") :
    FnOk P w K mg base CX0 3 f fd ["self", "row"] (liftSp K (pspMovesAlong K C)) := by
  refine fnP F scCMovesAlong (fun cdv A outer s H E hr R => (bw_cons (sw_par3 (i := 2) (j := 3) (l := 4) rfl scCMovesAlong.nd (aw_cons (ew_fldK (K := K) rfl cl na_first (ew_var 0)) (aw_cons ew_non (aw_cons ew_non aw_nil))) (fun ha => ps_par3 (i := 2) (j := 3) (l := 4) rfl scCMovesAlong.nd rfl rfl rfl (by decide) (by decide) (by decide) rfl rfl rfl ha rfl))
      (bw_cons (sw_set (i := 5) scCMovesAlong.nd (ew_lstO aw_nil))
      (bw_cons (sw_for PassesOwn.never rfl (iw_seq (ew_var 1)) (gw_tup (n := 2) rfl (gsw_cons (gw_name (i := 6) scCMovesAlong.nd) (gsw_cons (gw_name (i := 7) scCMovesAlong.nd) gsw_nil))) (bw_cons (sw_set (i := 8) scCMovesAlong.nd (ew_call GPSpotOf (hr.mono (by decide)) DPSpotOf.m DPSpotOf.F.kp DPSpotOf.b (aw_cons (ew_var 7) (aw_cons (ew_var 3) (aw_cons (ew_var 4) aw_nil)))))
      (bw_cons (sw_set (i := 9) scCMovesAlong.nd (ew_dgetSK (K := K) rfl (hu65 hr) (ew_fldK (K := K) rfl cl na_effects (ew_var 0)) (ew_call GPKeyAt (hr.mono (by decide)) DPKeyAt.m DPKeyAt.F.kp DPKeyAt.b (aw_cons (ew_var 2) (aw_cons (ew_var 8) (aw_cons (ew_var 6) aw_nil))))))
      (bw_cons (sw_set (i := 10) scCMovesAlong.nd (ew_call GPMoveBy (hr.mono (by decide)) DPMoveBy.m DPMoveBy.F.kp DPMoveBy.b (aw_cons (ew_var 2) (aw_cons (ew_var 8) (aw_cons (ew_var 6) (aw_cons (ew_var 9) aw_nil))))))
      (bw_cons (sw_expr (ew_append (ew_var 5) (ew_tup (aw_cons (ew_var 2) (aw_cons (ew_var 10) aw_nil)))))
      (bw_cons (sw_set (i := 2) scCMovesAlong.nd (ew_ix (ew_var 10) ew_int))
      (bw_cons (sw_set (i := 3) scCMovesAlong.nd (ew_if (tw_cmp (ow_eq (hu65 hr)) (ew_var 8) ew_str) (ew_var 7) (ew_var 3)))
      (bw_one (sw_set (i := 4) scCMovesAlong.nd (ew_if (tw_tru (ew_ix (ew_var 9) ew_int)) (ew_var 7) (ew_var 4)))))))))))
      (bw_one (sw_ret (ew_var 5))))))) (fun dvs O PQ q => ?_)
  obtain ⟨fl, kvs, s0, states, sorts, ef, x, xs, as, rfl, rfl, hx, h1, h2, hw, hs0, hp, hl, hef, k⟩ := q
  refine ⟨rfl, ?_⟩
  rcases hx with rfl | rfl
  · refine ⟨fl, rfl, ?_⟩
    rw [h1]
    refine loop_ind (fun ds Γ O => ∃ (ys : List PyData) (es : List (Str × Int)) (s : Std) (nw hd : Option Int) (acc : List PyData) (u1 u2 u3 u4 u5 : Option DV), ds = ys.map .d ∧ Paired (IsLt sorts) ys es ∧ Γ = [some (.x (insψ K C fl)), some (.d (.list xs)), some (.d (stdD s)), some (.d (endD nw)), some (.d (endD hd)), some (.o 0), u1, u2, u3, u4, u5] ∧ O = [.lst acc] ∧ Way s nw hd ∧ s.st ∈ states ∧ s.come.length + es.length ≤ 51 ∧ acc.length + es.length ≤ 60 ∧ ∀ ms, Goes ef s nw hd es ms → PQ (.d (.list (acc ++ ms.map goneD))) [])
      (fun Γ O j => ?_) (fun d ds Γ O j ih => ?_) _ _ _ ⟨xs, as, s0, none, none, [], none, none, none, none, none, rfl, hp, rfl, rfl, hw, hs0, by rw [hw.come.mpr rfl]; show 0 + as.length ≤ 51; omega, by show 0 + as.length ≤ 60; omega, fun ms hm => by rw [List.nil_append]; exact k ms hm⟩
    · obtain ⟨ys, es, s, nw, hd, acc, u1, u2, u3, u4, u5, e1, e2, rfl, rfl, w, hst, l1, l2, kk⟩ := j
      cases ys with
      | cons y ys => cases e1
      | nil =>
        cases e2
        refine ⟨trivial, ?_⟩
        have := kk [] rfl
        rw [List.map_nil, List.append_nil] at this
        exact .inr (.inr ⟨Nat.zero_le _, acc, rfl, this⟩)
    · obtain ⟨ys, es, s, nw, hd, acc, u1, u2, u3, u4, u5, e1, e2, rfl, rfl, w, hst, l1, l2, kk⟩ := j
      cases ys with
      | nil => cases e1
      | cons y ys =>
        cases e1
        cases e2 with
        | @cons _ a _ es' ey er =>
          obtain ⟨hy, ha⟩ := ey
          obtain ⟨hv, hnx⟩ := hef s.st a.1 (ageAt a.2 hd) hst ha (ageAt_mem _ _)
          have l1' : s.come.length + (es'.length + 1) ≤ 51 := l1
          have l2' : acc.length + (es'.length + 1) ≤ 60 := l2
          have hcn : spotOf a.2 nw hd = "newest" → s.come ≠ [] := fun z1 z2 => by
            have := w.come.mp z2
            rw [this] at z1
            exact absurd (show ("top" : Str) = "newest" from z1) (by decide)
          rcases hy with rfl | rfl
          all_goals
            refine ⟨trivial, rfl, ?_⟩
            refine ⟨rfl, a.2, nw, hd, rfl, rfl, ?_⟩
            refine ⟨fl, rfl, ?_⟩
            rw [h2]
            refine ⟨rfl, s, spotOf a.2 nw hd, a.1, ageAt a.2 hd, rfl, rfl, w.pl, way_age w a.2, ?_⟩
            refine ⟨kvs, HN.k3 (s.st, a.1, ageAt a.2 hd), HN.effD (ef (s.st, a.1, ageAt a.2 hd)), .inl rfl, rfl, hv, ?_⟩
            refine ⟨rfl, s, spotOf a.2 nw hd, a.1, ef (s.st, a.1, ageAt a.2 hd), rfl, rfl, w.pl, by omega, hcn, fun s' hs' => ?_⟩
            refine ⟨by show acc.length < 100000; omega, ?_⟩
            have hcl : s'.come.length ≤ s.come.length + 1 := by
              rcases spot_cases a.2 nw hd with ⟨c1, _⟩ | ⟨c1, _⟩ | ⟨c1, c2, _⟩
              · rw [hs'.top c1]; show 1 ≤ _; omega
              · by_cases hs : a.1 ∈ s.come
                · rw [hs'.old c1 hs]; omega
                · rw [(hs'.new c1 hs).1.length_eq, List.length_append]; exact Nat.le_refl _
              · rw [hs'.other c1 c2]; omega
            have w' := way_behind w hs'
            have hst' : s'.st ∈ states := by rw [hs'.st]; exact hnx
            have kk' : ∀ ms, Goes ef s' (if spotOf a.2 nw hd = "top" then some a.2 else nw) (if (ef (s.st, a.1, ageAt a.2 hd)).hold = true then some a.2 else hd) es' ms → PQ (.d (.list ((acc ++ [goneD (s, spotOf a.2 nw hd, a.1, ef (s.st, a.1, ageAt a.2 hd), s')]) ++ ms.map goneD))) [] := fun ms hm => by
              have := kk ((s, spotOf a.2 nw hd, a.1, ef (s.st, a.1, ageAt a.2 hd), s') :: ms) ⟨s', ms, hs', rfl, hm⟩
              rw [List.map_cons] at this
              rw [List.append_assoc]
              exact this
            have hal : (acc ++ [goneD (s, spotOf a.2 nw hd, a.1, ef (s.st, a.1, ageAt a.2 hd), s')]).length + es'.length ≤ 60 := by rw [List.length_append]; show acc.length + 1 + es'.length ≤ 60; omega
            show (match (spotOf a.2 nw hd == "top") with | true => _ | false => _)
            by_cases ct : spotOf a.2 nw hd = "top"
            · rw [if_pos ct] at w' kk'
              rw [show (spotOf a.2 nw hd == "top") = true from beq_iff_eq.mpr ct]
              show (match (ef (s.st, a.1, ageAt a.2 hd)).hold with | true => _ | false => _)
              cases hh : (ef (s.st, a.1, ageAt a.2 hd)).hold with
              | true =>
                rw [hh, if_pos rfl] at w' kk'
                exact ih _ _ ⟨ys, es', s', some a.2, some a.2, _, _, _, _, _, _, rfl, er, rfl, rfl, w', hst', by omega, hal, kk'⟩
              | false =>
                rw [hh, if_neg Bool.false_ne_true] at w' kk'
                exact ih _ _ ⟨ys, es', s', some a.2, hd, _, _, _, _, _, _, rfl, er, rfl, rfl, w', hst', by omega, hal, kk'⟩
            · rw [if_neg ct] at w' kk'
              rw [show (spotOf a.2 nw hd == "top") = false from beq_eq_false_iff_ne.mpr ct]
              show (match (ef (s.st, a.1, ageAt a.2 hd)).hold with | true => _ | false => _)
              cases hh : (ef (s.st, a.1, ageAt a.2 hd)).hold with
              | true =>
                rw [hh, if_pos rfl] at w' kk'
                exact ih _ _ ⟨ys, es', s', nw, some a.2, _, _, _, _, _, _, rfl, er, rfl, rfl, w', hst', by omega, hal, kk'⟩
              | false =>
                rw [hh, if_neg Bool.false_ne_true] at w' kk'
                exact ih _ _ ⟨ys, es', s', nw, hd, _, _, _, _, _, _, rfl, er, rfl, rfl, w', hst', by omega, hal, kk'⟩
  · refine ⟨fl, rfl, ?_⟩
    rw [h1]
    refine loop_ind (fun ds Γ O => ∃ (ys : List PyData) (es : List (Str × Int)) (s : Std) (nw hd : Option Int) (acc : List PyData) (u1 u2 u3 u4 u5 : Option DV), ds = ys.map .d ∧ Paired (IsLt sorts) ys es ∧ Γ = [some (.x (insψ K C fl)), some (.d (.tuple xs)), some (.d (stdD s)), some (.d (endD nw)), some (.d (endD hd)), some (.o 0), u1, u2, u3, u4, u5] ∧ O = [.lst acc] ∧ Way s nw hd ∧ s.st ∈ states ∧ s.come.length + es.length ≤ 51 ∧ acc.length + es.length ≤ 60 ∧ ∀ ms, Goes ef s nw hd es ms → PQ (.d (.list (acc ++ ms.map goneD))) [])
      (fun Γ O j => ?_) (fun d ds Γ O j ih => ?_) _ _ _ ⟨xs, as, s0, none, none, [], none, none, none, none, none, rfl, hp, rfl, rfl, hw, hs0, by rw [hw.come.mpr rfl]; show 0 + as.length ≤ 51; omega, by show 0 + as.length ≤ 60; omega, fun ms hm => by rw [List.nil_append]; exact k ms hm⟩
    · obtain ⟨ys, es, s, nw, hd, acc, u1, u2, u3, u4, u5, e1, e2, rfl, rfl, w, hst, l1, l2, kk⟩ := j
      cases ys with
      | cons y ys => cases e1
      | nil =>
        cases e2
        refine ⟨trivial, ?_⟩
        have := kk [] rfl
        rw [List.map_nil, List.append_nil] at this
        exact .inr (.inr ⟨Nat.zero_le _, acc, rfl, this⟩)
    · obtain ⟨ys, es, s, nw, hd, acc, u1, u2, u3, u4, u5, e1, e2, rfl, rfl, w, hst, l1, l2, kk⟩ := j
      cases ys with
      | nil => cases e1
      | cons y ys =>
        cases e1
        cases e2 with
        | @cons _ a _ es' ey er =>
          obtain ⟨hy, ha⟩ := ey
          obtain ⟨hv, hnx⟩ := hef s.st a.1 (ageAt a.2 hd) hst ha (ageAt_mem _ _)
          have l1' : s.come.length + (es'.length + 1) ≤ 51 := l1
          have l2' : acc.length + (es'.length + 1) ≤ 60 := l2
          have hcn : spotOf a.2 nw hd = "newest" → s.come ≠ [] := fun z1 z2 => by
            have := w.come.mp z2
            rw [this] at z1
            exact absurd (show ("top" : Str) = "newest" from z1) (by decide)
          rcases hy with rfl | rfl
          all_goals
            refine ⟨trivial, rfl, ?_⟩
            refine ⟨rfl, a.2, nw, hd, rfl, rfl, ?_⟩
            refine ⟨fl, rfl, ?_⟩
            rw [h2]
            refine ⟨rfl, s, spotOf a.2 nw hd, a.1, ageAt a.2 hd, rfl, rfl, w.pl, way_age w a.2, ?_⟩
            refine ⟨kvs, HN.k3 (s.st, a.1, ageAt a.2 hd), HN.effD (ef (s.st, a.1, ageAt a.2 hd)), .inl rfl, rfl, hv, ?_⟩
            refine ⟨rfl, s, spotOf a.2 nw hd, a.1, ef (s.st, a.1, ageAt a.2 hd), rfl, rfl, w.pl, by omega, hcn, fun s' hs' => ?_⟩
            refine ⟨by show acc.length < 100000; omega, ?_⟩
            have hcl : s'.come.length ≤ s.come.length + 1 := by
              rcases spot_cases a.2 nw hd with ⟨c1, _⟩ | ⟨c1, _⟩ | ⟨c1, c2, _⟩
              · rw [hs'.top c1]; show 1 ≤ _; omega
              · by_cases hs : a.1 ∈ s.come
                · rw [hs'.old c1 hs]; omega
                · rw [(hs'.new c1 hs).1.length_eq, List.length_append]; exact Nat.le_refl _
              · rw [hs'.other c1 c2]; omega
            have w' := way_behind w hs'
            have hst' : s'.st ∈ states := by rw [hs'.st]; exact hnx
            have kk' : ∀ ms, Goes ef s' (if spotOf a.2 nw hd = "top" then some a.2 else nw) (if (ef (s.st, a.1, ageAt a.2 hd)).hold = true then some a.2 else hd) es' ms → PQ (.d (.list ((acc ++ [goneD (s, spotOf a.2 nw hd, a.1, ef (s.st, a.1, ageAt a.2 hd), s')]) ++ ms.map goneD))) [] := fun ms hm => by
              have := kk ((s, spotOf a.2 nw hd, a.1, ef (s.st, a.1, ageAt a.2 hd), s') :: ms) ⟨s', ms, hs', rfl, hm⟩
              rw [List.map_cons] at this
              rw [List.append_assoc]
              exact this
            have hal : (acc ++ [goneD (s, spotOf a.2 nw hd, a.1, ef (s.st, a.1, ageAt a.2 hd), s')]).length + es'.length ≤ 60 := by rw [List.length_append]; show acc.length + 1 + es'.length ≤ 60; omega
            show (match (spotOf a.2 nw hd == "top") with | true => _ | false => _)
            by_cases ct : spotOf a.2 nw hd = "top"
            · rw [if_pos ct] at w' kk'
              rw [show (spotOf a.2 nw hd == "top") = true from beq_iff_eq.mpr ct]
              show (match (ef (s.st, a.1, ageAt a.2 hd)).hold with | true => _ | false => _)
              cases hh : (ef (s.st, a.1, ageAt a.2 hd)).hold with
              | true =>
                rw [hh, if_pos rfl] at w' kk'
                exact ih _ _ ⟨ys, es', s', some a.2, some a.2, _, _, _, _, _, _, rfl, er, rfl, rfl, w', hst', by omega, hal, kk'⟩
              | false =>
                rw [hh, if_neg Bool.false_ne_true] at w' kk'
                exact ih _ _ ⟨ys, es', s', some a.2, hd, _, _, _, _, _, _, rfl, er, rfl, rfl, w', hst', by omega, hal, kk'⟩
            · rw [if_neg ct] at w' kk'
              rw [show (spotOf a.2 nw hd == "top") = false from beq_eq_false_iff_ne.mpr ct]
              show (match (ef (s.st, a.1, ageAt a.2 hd)).hold with | true => _ | false => _)
              cases hh : (ef (s.st, a.1, ageAt a.2 hd)).hold with
              | true =>
                rw [hh, if_pos rfl] at w' kk'
                exact ih _ _ ⟨ys, es', s', nw, some a.2, _, _, _, _, _, _, rfl, er, rfl, rfl, w', hst', by omega, hal, kk'⟩
              | false =>
                rw [hh, if_neg Bool.false_ne_true] at w' kk'
                exact ih _ _ ⟨ys, es', s', nw, hd, _, _, _, _, _, _, rfl, er, rfl, rfl, w', hst', by omega, hal, kk'⟩
end
end PW
namespace PW
open PySem PySem.Spec PyProof.Rows L2
section
variable {P : Program} {w : World} {K : PySem.W.Frag} {mg : Str → Option Value} {base : Heap}

theorem find_map_k3 {f : HN.K3 → HN.Eff} {k : HN.K3} : ∀ {ks : List HN.K3}, k ∈ ks → valD (kvsT (ks.map fun k => (k, f k))) (HN.k3 k) = some (HN.effD (f k))
  | [], h => nomatch h
  | x :: ks, h => by
    by_cases e : x = k
    · subst e
      unfold valD kvsT
      rw [List.map_cons, List.map_cons, List.find?_cons_of_pos (by simp)]
      rfl
    · have hm : k ∈ ks := (List.mem_cons.mp h).resolve_left fun z => e z.symm
      have ih := find_map_k3 (f := f) hm
      unfold valD kvsT at ih ⊢
      rw [List.map_cons, List.map_cons, List.find?_cons_of_neg ?_]
      · exact ih
      · simp only [decide_eq_true_eq]
        intro z
        apply e
        unfold HN.k3 at z
        obtain ⟨x1, x2, x3⟩ := x
        obtain ⟨k1, k2, k3⟩ := k
        simpa using z
theorem val_table {B : HN.Bk} {st so age : Str} (h1 : st ∈ B.states) (h2 : so ∈ B.sorts) (h3 : age ∈ HN.ages) : valD (kvsT (HN.tableOf B)) (HN.k3 (st, so, age)) = some (HN.effD (HN.effOf B.rows (st, so, age))) :=
  find_map_k3 (f := HN.effOf B.rows) (HN.mem_keysOf.mpr ⟨h1, h2, h3⟩)
theorem effAt_mem' {rows : List (HN.K3 × HN.Eff)} {k : HN.K3} {e : HN.Eff} (h : HN.effAt rows k = some e) : (k, e) ∈ rows := by
  unfold HN.effAt at h
  cases q : rows.find? fun p => p.1 = k with
  | none => rw [q] at h; cases h
  | some p =>
    rw [q] at h
    have h1 := List.mem_of_find?_eq_some q
    have h2 := List.find?_some q
    simp only [decide_eq_true_eq] at h2
    have h3 : p.2 = e := Option.some.inj h
    obtain ⟨a, b⟩ := p
    dsimp only at h2 h3
    subst h2 h3
    exact h1
theorem effOf_nx {B : HN.Bk} (g : HN.GoodBk B) {k : HN.K3} (h : k.1 ∈ B.states) : (HN.effOf B.rows k).nx ∈ B.states := by
  unfold HN.effOf
  cases q : HN.effAt B.rows k with
  | none => exact h
  | some e => exact (g.2.2.2.1.2.2 _ (effAt_mem' q)).2.1
theorem goes_st {ef : HN.K3 → HN.Eff} {states sorts : List Str} (hnx : ∀ st so age, st ∈ states → so ∈ sorts → age ∈ HN.ages → (ef (st, so, age)).nx ∈ states) : ∀ {as : List (Str × Int)} {s : Std} {nw hd : Option Int} {ms : List (Std × Str × Str × HN.Eff × Std)}, Goes ef s nw hd as ms → s.st ∈ states → (∀ a ∈ as, a.1 ∈ sorts) → ms.length = as.length ∧ ∀ m ∈ ms, m.2.2.2.2.st ∈ states
  | [], _, _, _, ms, h, _, _ => by
    have h : ms = [] := h
    subst h
    exact ⟨rfl, fun m hm => nomatch hm⟩
  | a :: as, s, nw, hd, ms, h, hs, ha => by
    obtain ⟨s', rest, hb, rfl, hr⟩ := h
    have h1 : s'.st ∈ states := by rw [hb.st]; exact hnx _ _ _ hs (ha a List.mem_cons_self) (ageAt_mem _ _)
    obtain ⟨i1, i2⟩ := goes_st hnx hr h1 fun b hb => ha b (List.mem_cons_of_mem _ hb)
    exact ⟨by rw [List.length_cons, List.length_cons, i1], fun m hm => by
      rcases List.mem_cons.mp hm with rfl | hm
      · exact h1
      · exact i2 m hm⟩
theorem paired_lt {sorts : List Str} : ∀ {xs : List PyData} {as : List (Str × Int)}, Paired (IsLt sorts) xs as → xs.length = as.length ∧ ∀ a ∈ as, a.1 ∈ sorts
  | _, _, .nil => ⟨rfl, fun a ha => nomatch ha⟩
  | _, _, .cons h t => by
    obtain ⟨i1, i2⟩ := paired_lt t
    exact ⟨by rw [List.length_cons, List.length_cons, i1], fun a ha => by
      rcases List.mem_cons.mp ha with rfl | ha
      · exact h.2
      · exact i2 a ha⟩
theorem moveC_ok {B : HN.Bk} {s : Std} {e : HN.Eff} {fl cp : Option Int} (h : (⟨fl, 0, cp⟩ : Cl).ok) : (moveC B s e fl cp).ok := by
  unfold moveC
  cases e.step with
  | none => intro l u hl hu; cases hl; cases hu; exact Int.le_refl _
  | some i => exact h
/-- the clamps of a row's letters -/
def rowC (B : HN.Bk) (fl cp : Option Int) (ms : List (Std × Str × Str × HN.Eff × Std)) : List Cl := ms.map fun m => moveC B m.2.2.2.2 m.2.2.2.1 fl cp
def pspDeviceClamp (C : Addr) : PSp := fun dvs O Q => ∃ (B : HN.Bk) (x : PyData) (xs : List PyData) (as : List (Str × Int)) (fl cp : Option Int), dvs = [.x (bookψ C B), .d x, .d (endD fl), .d (endD cp)] ∧ O = [] ∧ SeqD x xs ∧ (∀ z ∈ B.sorts, (PyData.str z).canLay0 = true) ∧ HN.GoodBk B ∧ Paired (IsLt B.sorts) xs as ∧ as.length ≤ 50 ∧
  (⟨fl, 0, cp⟩ : Cl).ok ∧ ∀ ms, Goes (HN.effOf B.rows) ⟨B.first, "none", [], false⟩ none none as ms → Q (.d (.tuple (joinC (rowC B fl cp ms)).ds)) []
theorem good_small {B : HN.Bk} (g : HN.GoodBk B) : SmallBk B := ⟨g.1.2.2.1, g.2.1.2.2.1, g.1.2.1, g.2.1.2.1⟩
def moveOf : DV → DV
  | .d (.tuple [_, m]) => .d m
  | x => x
theorem cls_row {B : HN.Bk} {fl cp : Option Int} (h : (⟨fl, 0, cp⟩ : Cl).ok) : ∀ ms : List (Std × Str × Str × HN.Eff × Std), ClsOf ((rowC B fl cp ms).map fun c => .tuple c.ds) (rowC B fl cp ms)
  | [] => .nil
  | m :: ms => .cons ⟨.inr rfl, moveC_ok h⟩ (cls_row h ms)

theorem spots_cases {z : Str} {d : PyData} (h : spotsTbl.lookup z = some d) : (z = "lower" ∧ d = sprD lowerSp) ∨ (z = "newest" ∧ d = sprD newestSp) ∨ (z = "none" ∧ d = sprD noneSp) := by
  unfold spotsTbl at h
  rw [List.lookup_cons, List.lookup_cons, List.lookup_cons] at h
  cases q1 : z == ("lower" : Str) with
  | true => rw [q1] at h; cases h; exact .inl ⟨eq_of_beq q1, rfl⟩
  | false =>
    rw [q1] at h
    cases q2 : z == ("newest" : Str) with
    | true => rw [q2] at h; cases h; exact .inr (.inl ⟨eq_of_beq q2, rfl⟩)
    | false =>
      rw [q2] at h
      cases q3 : z == ("none" : Str) with
      | true => rw [q3] at h; cases h; exact .inr (.inr ⟨eq_of_beq q3, rfl⟩)
      | false => rw [q3] at h; cases h
/-- the standing behind a row -/
def lastS (s0 : Std) : List (Std × Str × Str × HN.Eff × Std) → Std
  | [] => s0
  | [m] => m.2.2.2.2
  | _ :: m :: ms => lastS s0 (m :: ms)
theorem lastS_cons {s0 s1 : Std} : ∀ (m : Std × Str × Str × HN.Eff × Std) (ms : List (Std × Str × Str × HN.Eff × Std)), lastS s0 (m :: ms) = lastS s1 (m :: ms)
  | m, [] => rfl
  | m, m2 :: ms => lastS_cons m2 ms
def firstStd (B : HN.Bk) : Std := ⟨B.first, "none", [], false⟩
def At (B : HN.Bk) (as : List (Str × Int)) (s : Std) : Prop := ∃ ms, Goes (HN.effOf B.rows) (firstStd B) none none as ms ∧ s = lastS (firstStd B) ms
def pspStandingOf (C : Addr) : PSp := fun dvs O Q => ∃ (B : HN.Bk) (x : PyData) (xs : List PyData) (as : List (Str × Int)), dvs = [.x (bookψ C B), .d x] ∧ O = [] ∧ SeqD x xs ∧ (∀ z ∈ B.sorts, (PyData.str z).canLay0 = true) ∧ HN.GoodBk B ∧ Paired (IsLt B.sorts) xs as ∧ as.length ≤ 50 ∧ ∀ s, At B as s → Q (.d (stdD s)) []
theorem at_last {s0 : Std} : ∀ {ms : List (Std × Str × Str × HN.Eff × Std)}, ms ≠ [] → ∃ m ∈ ms, lastS s0 ms = m.2.2.2.2 ∧ (ms.map goneD).getLast? = some (goneD m)
  | [], h => (h rfl).elim
  | [m], _ => ⟨m, List.mem_cons_self, rfl, rfl⟩
  | m :: m2 :: ms, _ => by
    obtain ⟨x, h1, h2, h3⟩ := at_last (s0 := s0) (ms := m2 :: ms) (by simp)
    exact ⟨x, List.mem_cons_of_mem _ h1, h2, by rw [List.map_cons, List.map_cons, List.getLast?_cons_cons]; exact h3⟩
theorem atI_last {α : Type} {xs : List α} {x : α} (h : xs.getLast? = some x) : atI xs (-1) = some x := by
  rw [List.getLast?_eq_getElem?] at h
  have hl := (List.getElem?_eq_some_iff.mp h).1
  unfold atI ixN
  have e1 : ¬ (0 : Int) ≤ -1 := by omega
  have e2 : (0 : Int) ≤ -1 + xs.length := by omega
  have e3 : ((-1 : Int) + xs.length).toNat = xs.length - 1 := by omega
  have e4 : (1 : Int) ≤ xs.length := by omega
  simp [e2, e3, e4, h]
abbrev nmPStandingOf : List Str := ["book", "row", "made"]
theorem scPStandingOf : FnScope nmPStandingOf ["book", "row"] (defScope sPStandingOf) := ⟨rfl, rfl, rfl, by decide +kernel, rfl, by decide +kernel, by decide +kernel⟩
theorem okPStandingOf {f : Addr} {fd : FuncData} (D : Def K mg "standing_of" sPStandingOf ["book", "row"] f fd) (T : Txt K mg)
    {fPFirstStanding : Addr} {fdPFirstStanding : FuncData} (DPFirstStanding : Def K mg "first_standing" sPFirstStanding ["book"] fPFirstStanding fdPFirstStanding) (GPFirstStanding : FnOk P w K mg base CX0 2 fPFirstStanding fdPFirstStanding ["book"] (liftSp K (pspFirstStanding C)))
    {fPCheckRow : Addr} {fdPCheckRow : FuncData} (DPCheckRow : Def K mg "check_row" sPCheckRow ["book", "thing"] fPCheckRow fdPCheckRow) (GPCheckRow : FnOk P w K mg base CX0 4 fPCheckRow fdPCheckRow ["book", "thing"] (liftSp K (pspCheckRow C)))
    {CC fC fM : Addr} {fdC fdM : FuncData} {e0 : Addr} (MC : Mk K CC fC) (FC : FunD K "__init__" "Course.__init__" (defArgs HN.sCInit) (defBody HN.sCInit) (defScope HN.sCInit) [.ref e0] [] fC fdC) (he0 : ∀ H, SqT K H e0 [])
    (GC : FnOk P w K mg base CX0 3 fC fdC ["self", "book", "idle"] (HN.spCInitV K CC C)) (mgCC : mg "Course" = some (.ref CC)) (clC : Cls K CC)
    (MM : Meth K CC "moves_along" fM) (LM : FnOk P w K mg base CX0 3 fM fdM ["self", "row"] (liftSp K (pspMovesAlong K CC))) (bM : Binds K fdM ["self", "row"] []) :
    FnOk P w K mg base CX0 6 f fd ["book", "row"] (liftSp K (pspStandingOf C)) := by
  refine fnP D.F scPStandingOf (fun cdv A outer s H E hr R => (bw_cons (sw_expr (ew_call GPCheckRow (hr.mono (by decide)) DPCheckRow.m DPCheckRow.F.kp DPCheckRow.b (aw_cons (ew_var 0) (aw_cons (ew_var 1) aw_nil))))
      (bw_cons (sw_set (i := 2) scPStandingOf.nd (ew_methK (K := K) rfl clC MM LM (hr.mono (by decide)) bM (ew_courseK (K := K) rfl MC FC he0 GC (hr.mono (by decide)) mgCC (ew_var 0)) (aw_cons (ew_var 1) aw_nil)))
      (bw_one (sw_ret (ew_if (tw_tru (ew_var 2)) (ew_ix (ew_ix (ew_ix (ew_var 2) (ew_neg ew_int)) ew_int) ew_int) (ew_call GPFirstStanding (hr.mono (by decide)) DPFirstStanding.m DPFirstStanding.F.kp DPFirstStanding.b (aw_cons (ew_var 0) aw_nil)))))))) (fun dvs O PQ q => ?_)
  obtain ⟨B, x, xs, as, rfl, rfl, hx, hz, gB, hp, hl, k⟩ := q
  obtain ⟨lx, hso⟩ := paired_lt hp
  refine ⟨rfl, ?_⟩
  refine ⟨rfl, B, x, xs, as, rfl, rfl, hx, hz, hp, ?_⟩
  refine ⟨B, rfl, good_small gB, fun ys => ?_⟩
  refine ⟨⟨_, rfl, rfl⟩, ?_⟩
  refine ⟨rfl, _, kvsT (HN.tableOf B), ⟨B.first, "none", [], false⟩, B.states, B.sorts, HN.effOf B.rows, x, xs, as, rfl, rfl, hx, rfl, rfl, way_first _, gB.2.2.1, hp, hl, fun st so age h1 h2 h3 => ⟨val_table h1 h2 h3, effOf_nx gB h1⟩, fun ms hms => ?_⟩
  have kk := k (lastS (firstStd B) ms) ⟨ms, hms, rfl⟩
  cases ms with
  | nil => exact ⟨rfl, B, rfl, rfl, kk⟩
  | cons m ms =>
    obtain ⟨x, h1, h2, h3⟩ := at_last (s0 := firstStd B) (ms := m :: ms) (by simp)
    have e := atI_last h3
    show (match atI ((m :: ms).map goneD) (-1) with | some e => _ | none => False)
    rw [e]
    rw [h2] at kk
    exact kk
end
end PW
namespace PW
open PySem PySem.Spec PyProof.Rows L2
section
variable {P : Program} {w : World} {K : PySem.W.Frag} {mg : Str → Option Value} {base : Heap}

def letP (a : Str × Int) : PyData := .tuple [.str a.1, .int a.2]
theorem lets_lt {sorts : List Str} : ∀ {as : List (Str × Int)}, (∀ a ∈ as, a.1 ∈ sorts) → Paired (IsLt sorts) (as.map letP) as
  | [], _ => .nil
  | a :: as, h => .cons ⟨.inr rfl, h a List.mem_cons_self⟩ (lets_lt fun b hb => h b (List.mem_cons_of_mem _ hb))
/-- a drawn row -/
structure DrawnRow (B : HN.Bk) (most wide : Int) (as : List (Str × Int)) : Prop where
  len : (as.length : Int) ≤ most
  so : ∀ a ∈ as, a.1 ∈ B.sorts
  lo : ∀ a ∈ as, -2 ≤ a.2
  hi : ∀ a ∈ as, a.2 < wide - 2
def pspSomeRow (K : PySem.W.Frag) : PSp := fun dvs O Q => ∃ (B : HN.Bk) (most wide : Int), dvs = [.o 0, .x (planψ K B), .d (.int most), .d (.int wide)] ∧ O = [.dr] ∧ 0 ≤ most ∧ most ≤ 60 ∧ 0 < wide ∧ wide ≤ 100 ∧ B.sorts ≠ [] ∧ B.sorts.length ≤ 3 ∧ ∀ as, DrawnRow B most wide as → Q (.d (.list (as.map letP))) [.dr]
abbrev nmLSomeRow : List Str := ["_law_draws", "_law_plan", "_law_most", "_law_wide", "_law_k"]
theorem scLSomeRow : FnScope nmLSomeRow ["_law_draws", "_law_plan", "_law_most", "_law_wide"] (defScope sLSomeRow) := ⟨rfl, rfl, rfl, by decide +kernel, rfl, by decide +kernel, by decide +kernel⟩
theorem okLSomeRow {f : Addr} {fd : FuncData} (D : Def K mg "_law_some_row" sLSomeRow ["_law_draws", "_law_plan", "_law_most", "_law_wide"] f fd) (T : Txt K mg)
    {fLDraw : Addr} {fdLDraw : FuncData} (DLDraw : Def K mg "_law_draw" sLDraw ["_law_draws", "_law_many"] fLDraw fdLDraw) (GLDraw : FnOk P w K mg base CX0 1 fLDraw fdLDraw ["_law_draws", "_law_many"] (liftSp K pspDraw))
    {fLPick : Addr} {fdLPick : FuncData} (DLPick : Def K mg "_law_pick" sLPick ["_law_draws", "_law_xs"] fLPick fdLPick) (GLPick : FnOk P w K mg base CX0 2 fLPick fdLPick ["_law_draws", "_law_xs"] (liftSp K pspPick)) :
    FnOk P w K mg base CX0 3 f fd ["_law_draws", "_law_plan", "_law_most", "_law_wide"] (liftSp K (pspSomeRow K)) := by
  refine fnP D.F scLSomeRow (fun cdv A outer s H E hr R => (bw_one (sw_ret (ew_lc (own := [("_law_k", 4)]) rfl scLSomeRow.nd (iw_range1 T.range (aw_cons (ew_call GLDraw (hr.mono (by decide)) DLDraw.m DLDraw.F.kp DLDraw.b (aw_cons (ew_var 0) (aw_cons (ew_bin ow_add (ew_var 2) ew_int) aw_nil))) aw_nil)) (blkOk_by (N := nmLSomeRow) (sc := defScope sLSomeRow) (by decide +kernel)) (fun _ _ _ _ _ _ => (gc_name (i := 4) (by decide) scLSomeRow.nd)) (fun _ _ _ _ _ _ => ifw_nil) (fun _ _ _ _ _ _ => (ew_tup (aw_cons (ew_call GLPick (hr.mono (by decide)) DLPick.m DLPick.F.kp DLPick.b (aw_cons (ew_var 0) (aw_cons (ew_ixP (K := K) rfl 1 (ew_var 1)) aw_nil))) (aw_cons (ew_bin ow_sub (ew_call GLDraw (hr.mono (by decide)) DLDraw.m DLDraw.F.kp DLDraw.b (aw_cons (ew_var 0) (aw_cons (ew_var 3) aw_nil))) ew_int) aw_nil)))))))) (fun dvs O PQ q => ?_)
  obtain ⟨B, most, wide, rfl, rfl, m0, m1, w0, w1, hs, hl, k⟩ := q
  refine ⟨rfl, ?_⟩
  refine ⟨rfl, most + 1, rfl, rfl, by omega, by omega, fun n n0 n1 => ?_⟩
  refine ⟨⟨by omega, by omega⟩, ?_⟩
  refine ⟨by show (rngD 0 n.toNat).length ≤ 100000; simp [rngD]; omega, ?_⟩
  refine lc_ind (fun ds acc O => ∃ as : List (Str × Int), acc = as.map letP ∧ (as.length : Int) + (ds.length : Int) = n ∧ (∀ a ∈ as, a.1 ∈ B.sorts ∧ -2 ≤ a.2 ∧ a.2 < wide - 2) ∧ O = [.dr]) (fun acc O j => ?_) (fun d ds acc O j ih => ?_) _ _ _ ⟨[], rfl, by simp [rngD]; omega, fun a ha => (nomatch ha), rfl⟩
  · obtain ⟨as, rfl, hn, hb, rfl⟩ := j
    refine ⟨trivial, ?_⟩
    have hn' : (as.length : Int) = n := by simpa using hn
    exact k as ⟨by omega, fun a ha => (hb a ha).1, fun a ha => (hb a ha).2.1, fun a ha => (hb a ha).2.2⟩
  · obtain ⟨as, rfl, hn, hb, rfl⟩ := j
    refine ⟨trivial, ?_⟩
    refine ⟨_, rfl, ?_⟩
    refine ⟨rfl, B.sorts.map PyData.str, rfl, rfl, by rw [List.length_map]; exact List.length_pos_iff.mpr hs, by rw [List.length_map]; omega, fun d hd => ?_⟩
    obtain ⟨so, hso, rfl⟩ := List.mem_map.mp hd
    refine ⟨rfl, wide, rfl, rfl, by omega, by omega, fun r r0 r1 => ?_⟩
    refine ih _ _ ⟨as ++ [(so, r - 2)], by rw [List.map_append]; rfl, ?_, fun a ha => ?_, rfl⟩
    · rw [List.length_append]
      rw [List.length_cons] at hn
      simp at hn ⊢
      omega
    · rcases List.mem_append.mp ha with ha | ha
      · exact hb a ha
      · rw [List.mem_singleton] at ha
        subst ha
        exact ⟨hso, by show -2 ≤ r - 2; omega, by show r - 2 < wide - 2; omega⟩

section
variable {X : Cx} {R : Fr} {o a b : Expr} {f g h : PTE} {apos cpos : Pos}
theorem ew_dget2TK {K : PySem.W.Frag} (hK : X.K = K) (hu : X.A.units + 65 < cLine) (ho : EW X R o f) (he : EW X R a g) (hf : EW X R b h) (m : M2 X o "get" apos a b cpos) : EW X R (.Call (.Attribute o "get" apos) [a, b] [] cpos) (qDGet2T K f g h) := by
  subst hK
  exact ew_dget2T hu ho he hf m
theorem ew_dget2KK {K : PySem.W.Frag} (hK : X.K = K) (hu : X.A.units + 65 < cLine) (ho : EW X R o f) (he : EW X R a g) (hf : EW X R b h) (m : M2 X o "get" apos a b cpos) : EW X R (.Call (.Attribute o "get" apos) [a, b] [] cpos) (qDGet2K K f g h) := by
  subst hK
  exact ew_dget2K hu ho he hf m
end

theorem valD_rows (rows : List (HN.K3 × HN.Eff)) (k : HN.K3) : valD (kvsT rows) (HN.k3 k) = (HN.effAt rows k).map HN.effD := by
  induction rows with
  | nil => rfl
  | cons p rows ih =>
    unfold valD kvsT HN.effAt at ih ⊢
    rw [List.map_cons]
    by_cases e : p.1 = k
    · rw [List.find?_cons_of_pos (by simp [e]), List.find?_cons_of_pos (by simp [e])]
      rfl
    · rw [List.find?_cons_of_neg ?_, List.find?_cons_of_neg (by simp [e])]
      · exact ih
      · simp only [decide_eq_true_eq]
        intro z
        apply e
        unfold HN.k3 at z
        obtain ⟨⟨x1, x2, x3⟩, ef⟩ := p
        obtain ⟨k1, k2, k3⟩ := k
        simpa using z
theorem valD_worth (ws : List (Str × Int)) (z : Str) : (valD (wksD ws) (.inr z)).getD (.int 0) = .int (HN.wOf ws z) := by
  have h : valD (wksD ws) (.inr z) = (HN.wAt ws z).map PyData.int := by
    induction ws with
    | nil => rfl
    | cons p ws ih =>
      unfold valD wksD HN.wAt at ih ⊢
      rw [List.map_cons]
      by_cases e : p.1 = z
      · rw [List.find?_cons_of_pos (by simp [e]), List.find?_cons_of_pos (by simp [e])]
        rfl
      · rw [List.find?_cons_of_neg (by simp [e]), List.find?_cons_of_neg (by simp [e])]
        exact ih
  rw [h]
  unfold HN.wOf
  cases HN.wAt ws z <;> rfl
def pspLEffectOf (K : PySem.W.Frag) : PSp := fun dvs O Q => ∃ (B : HN.Bk) (k : HN.K3), dvs = [.x (planψ K B), .d (.str k.1), .d (.str k.2.1), .d (.str k.2.2)] ∧ O = [] ∧ Q (.d (HN.effD (HN.effOf B.rows k))) []
def pspLAgeOf : PSp := fun dvs O Q => ∃ (n : Int) (hd : Option Int), dvs = [.d (.int n), .d (endD hd)] ∧ O = [] ∧ Q (.d (.str (ageAt n hd))) []
/-- the error behind a letter -/
def errStep (B : HN.Bk) (e : HN.Eff) (st : Str) (err : Int) : Int := match e.step with
  | none => 0
  | some i => err + i - (HN.wOf B.worths e.nx - HN.wOf B.worths st)
abbrev Mv := Std × Str × Str × HN.Eff × Std
def gnE (B : HN.Bk) : Int → List Mv → List PyData
  | _, [] => []
  | err, m :: ms => .tuple [stdD m.2.2.2.2, .bool m.2.2.2.1.ring, HN.stD m.2.2.2.1.step, .int (errStep B m.2.2.2.1 m.1.st err)] :: gnE B (errStep B m.2.2.2.1 m.1.st err) ms
def gnD (B : HN.Bk) (ms : List Mv) : List PyData := .tuple [stdD (firstStd B), .bool false, .int 0, .int 0] :: gnE B 0 ms
def pspGone (K : PySem.W.Frag) : PSp := fun dvs O Q => ∃ (B : HN.Bk) (as : List (Str × Int)), dvs = [.x (planψ K B), .d (.list (as.map letP))] ∧ O = [] ∧ (∀ a ∈ as, a.1 ∈ B.sorts) ∧ as.length ≤ 50 ∧ ∀ ms, Goes (HN.effOf B.rows) (firstStd B) none none as ms → Q (.d (.list (gnD B ms))) []
/-- where the held number stands -/
def placeAt (hd nw : Option Int) : Str := match hd with
  | none => "none"
  | some h => if nw = some h then "newest" else "lower"
def riseS (c : List Str) : Prop := c.Nodup ∧ sortedS c = true
theorem way_place {s : Std} {nw hd : Option Int} (w : Way s nw hd) : s.place = placeAt hd nw := by
  unfold placeAt
  cases hd with
  | none => exact w.none.mp rfl
  | some h =>
    dsimp only
    have w1 : s.place = "none" ∨ s.place = "newest" ∨ s.place = "lower" := w.pl
    rcases w1 with p | p | p
    · cases (w.none.mpr p)
    · rw [if_pos (w.newest h rfl p)]; exact p
    · obtain ⟨n, e, l⟩ := w.lower h rfl p
      rw [if_neg (fun z => by rw [e] at z; cases z; omega)]
      exact p
theorem rise_one {z : Str} {ys : List Str} (nd : ys.Nodup) (hm : ∀ x, x ∈ ys ↔ x ∈ [z]) : ys = [z] := by
  have hz : z ∈ ys := (hm z).mpr List.mem_cons_self
  cases ys with
  | nil => cases hz
  | cons y ys =>
    have hy : y = z := List.mem_singleton.mp ((hm y).mp List.mem_cons_self)
    subst hy
    cases ys with
    | nil => rfl
    | cons x ys =>
      have hx : x = y := List.mem_singleton.mp ((hm x).mp (List.mem_cons_of_mem _ List.mem_cons_self))
      subst hx
      exact ((List.nodup_cons.mp nd).1 List.mem_cons_self).elim
theorem rise_same {c ys : List Str} (h : riseS c) (nd : ys.Nodup) (so : sortedS ys = true) (hm : ∀ x, x ∈ ys ↔ x ∈ c) : ys = c := HN.sortedS_uniq ((List.perm_ext_iff_of_nodup nd h.1).mpr hm) so h.2
theorem rise_new {c ys : List Str} {z : Str} (h : riseS c) (hz : z ∉ c) (nd : ys.Nodup) (hm : ∀ x, x ∈ ys ↔ x ∈ c ++ [z]) : ys.Perm (c ++ [z]) := by
  refine (List.perm_ext_iff_of_nodup nd ?_).mpr hm
  rw [List.nodup_append]
  exact ⟨h.1, List.nodup_cons.mpr ⟨List.not_mem_nil, List.nodup_nil⟩, fun a ha b hb e => hz (by rw [List.mem_singleton] at hb; rw [← hb, ← e]; exact ha)⟩
/-- the place behind a letter -/
theorem place_behind {s : Std} {nw hd : Option Int} (w : Way s nw hd) (n : Int) (hold : Bool) :
    placeAt (if hold = true then some n else hd) (if spotOf n nw hd = "top" then some n else nw) = if hold = true then (if spotOf n nw hd = "top" ∨ spotOf n nw hd = "newest" then ("newest" : Str) else "lower") else if spotOf n nw hd = "top" ∧ s.place = "newest" then ("lower" : Str) else s.place := by
  have hp := way_place w
  rcases spot_cases n nw hd with ⟨c1, c2⟩ | ⟨c1, c2⟩ | ⟨c1, c2, m, c3, c4⟩
  · cases hold with
    | true => simp [c1, placeAt]
    | false =>
      simp only [c1]
      cases hd with
      | none =>
        have : s.place = "none" := w.none.mp rfl
        rw [this]
        rfl
      | some h =>
        have w1 : s.place = "none" ∨ s.place = "newest" ∨ s.place = "lower" := w.pl
        have hn : ¬ (some n = some h) := fun e => by
          cases e
          rcases c2 with c2 | ⟨m, c2, c3⟩
          · rcases w1 with p | p | p
            · cases (w.none.mpr p)
            · have := w.newest n rfl p; rw [c2] at this; cases this
            · obtain ⟨k, e, _⟩ := w.lower n rfl p; rw [c2] at e; cases e
          · rcases w1 with p | p | p
            · cases (w.none.mpr p)
            · have := w.newest n rfl p; rw [c2] at this; cases this; omega
            · obtain ⟨k, e, l⟩ := w.lower n rfl p; rw [c2] at e; cases e; omega
        show (if some n = some h then ("newest" : Str) else "lower") = _
        rw [if_neg hn]
        rcases w1 with p | p | p
        · cases (w.none.mpr p)
        · simp [p]
        · simp [p]
  · have ct : spotOf n nw hd ≠ "top" := by rw [c1]; decide
    rw [if_neg ct]
    cases hold with
    | true =>
      rw [if_pos rfl, if_pos rfl, if_pos (.inr c1)]
      show placeAt (some n) nw = "newest"
      rw [c2]
      exact if_pos rfl
    | false =>
      rw [if_neg Bool.false_ne_true, if_neg Bool.false_ne_true, if_neg (fun z => ct z.1), ← hp]
  · rw [if_neg c1]
    cases hold with
    | true =>
      rw [if_pos rfl, if_pos rfl, if_neg (fun z => z.elim c1 c2)]
      show (if nw = some n then ("newest" : Str) else "lower") = "lower"
      rw [if_neg (fun z => by rw [c3] at z; cases z; omega)]
    | false =>
      rw [if_neg Bool.false_ne_true, if_neg Bool.false_ne_true, if_neg (fun z => c1 z.1), ← hp]
abbrev nmLEffectOf : List Str := ["_law_plan", "_law_state", "_law_sort", "_law_age"]
theorem scLEffectOf : FnScope nmLEffectOf ["_law_plan", "_law_state", "_law_sort", "_law_age"] (defScope sLEffectOf) := ⟨rfl, rfl, rfl, by decide +kernel, rfl, by decide +kernel, by decide +kernel⟩
theorem okLEffectOf {f : Addr} {fd : FuncData} (D : Def K mg "_law_effect_of" sLEffectOf ["_law_plan", "_law_state", "_law_sort", "_law_age"] f fd) (T : Txt K mg) :
    FnOk P w K mg base CX0 1 f fd ["_law_plan", "_law_state", "_law_sort", "_law_age"] (liftSp K (pspLEffectOf K)) := by
  refine fnP D.F scLEffectOf (fun cdv A outer s H E hr R => (bw_one (sw_ret (ew_dget2TK (K := K) rfl (hu65 hr) (ew_asT (K := K) rfl (ew_ixP (K := K) rfl 3 (ew_var 0))) (ew_tupK (aw_cons (ew_var 1) (aw_cons (ew_var 2) (aw_cons (ew_var 3) aw_nil)))) (ew_tup (aw_cons (ew_var 1) (aw_cons ew_bl (aw_cons ew_bl (aw_cons ew_int aw_nil))))) ⟨rfl, rfl, rfl, rfl⟩)))) (fun dvs O PQ q => ?_)
  obtain ⟨B, k, rfl, rfl, kk⟩ := q
  refine ⟨rfl, ?_⟩
  refine ⟨_, rfl, B.rows, rfl, ⟨_, .inl rfl⟩, ?_⟩
  refine ⟨kvsT B.rows, HN.k3 k, .tuple [.str k.1, .bool false, .bool false, .int 0], .inl rfl, rfl, rfl, ?_⟩
  rw [valD_rows]
  unfold HN.effOf at kk
  cases e : HN.effAt B.rows k with
  | none => rw [e] at kk; exact kk
  | some x => rw [e] at kk; exact kk
abbrev nmLAgeOf : List Str := ["_law_number", "_law_held"]
theorem scLAgeOf : FnScope nmLAgeOf ["_law_number", "_law_held"] (defScope sLAgeOf) := ⟨rfl, rfl, rfl, by decide +kernel, rfl, by decide +kernel, by decide +kernel⟩
theorem okLAgeOf {f : Addr} {fd : FuncData} (D : Def K mg "_law_age_of" sLAgeOf ["_law_number", "_law_held"] f fd) (T : Txt K mg) :
    FnOk P w K mg base CX0 1 f fd ["_law_number", "_law_held"] (liftSp K pspLAgeOf) := by
  refine fnP D.F scLAgeOf (fun cdv A outer s H E hr R => (bw_cons (sw_if (tw_cmp ow_is (ew_var 1) ew_non) (bw_one (sw_ret ew_str)) bw_nil)
      (bw_one (sw_ret (ew_ix (ew_lst (aw_cons ew_str (aw_cons ew_str (aw_cons ew_str aw_nil)))) (ew_bin ow_add (ew_ty b_int T.int (by decide +kernel) (aw_cons (ew_cmp ow_le (ew_var 0) (ew_var 1)) aw_nil)) (ew_ty b_int T.int (by decide +kernel) (aw_cons (ew_cmp ow_lt (ew_var 0) (ew_var 1)) aw_nil)))))))) (fun dvs O PQ q => ?_)
  obtain ⟨n, hd, rfl, rfl, k⟩ := q
  refine ⟨rfl, ?_⟩
  cases hd with
  | none => exact k
  | some h =>
    have fin : ∀ (b1 b2 : Bool), b1 = decide (n ≤ h) → b2 = decide (n < h) → (match atI [PyData.str "newer", .str "same", .str "elder"] ((if b1 then 1 else 0) + (if b2 then 1 else 0)) with | some e => RetN 0 PQ (.d e) [] | none => False) := by
      intro b1 b2 h1 h2
      unfold ageAt at k
      dsimp only at k
      by_cases c1 : n > h
      · rw [if_pos c1] at k
        rw [h1, h2, decide_eq_false (by omega), decide_eq_false (by omega)]
        exact k
      · rw [if_neg c1] at k
        by_cases c2 : n = h
        · rw [if_pos c2] at k
          rw [h1, h2, decide_eq_true (by omega), decide_eq_false (by omega)]
          exact k
        · rw [if_neg c2] at k
          rw [h1, h2, decide_eq_true (by omega), decide_eq_true (by omega)]
          exact k
    exact fin _ _ rfl rfl

/-- the end of a turn, over clean slots -/
theorem gone_tail {K : PySem.W.Frag} {PD : PEnds} {B : HN.Bk} {d1 : PyData} {st so age : Str} {nw : Int} {hd : Option Int} {come : List Str} {rung : Bool} {err n : Int} {e : HN.Eff} {acc : List PyData} {v16 v17 : Option DV} (hacc : acc.length < 1000)
    (k : ∀ w16 w17, PD.nx [some (.x (planψ K B)), some (.d d1), some (.d (.str e.nx)), some (.d (endD (if e.hold = true then some n else hd))), some (.d (.int nw)), some (.d (.tuple (come.map PyData.str))), some (.d (.bool rung)), some (.d (.int (errStep B e st err))), some (.o 0), some (.d (.str so)), some (.d (.int n)), some (.d (.str age)), some (.d (.str e.nx)), some (.d (.bool e.hold)), some (.d (.bool e.ring)), some (.d (HN.stD e.step)), w16, w17]
      [.lst (acc ++ [.tuple [stdD ⟨e.nx, placeAt (if e.hold = true then some n else hd) (some nw), come, rung⟩, .bool e.ring, HN.stD e.step, .int (errStep B e st err)]])]) :
    (qSeq (qSet 3 (qIf (qTru (qVar 13)) (qVar 10) (qVar 3))) (qSeq (qSet 16 (qBin opSub (qDGet2K K (qIxP K 4 (qVar 0)) (qVar 12) (qC (PyData.int 0))) (qDGet2K K (qIxP K 4 (qVar 0)) (qVar 2) (qC (PyData.int 0))))) (qSeq (qPar 7 2 (qCons (qIf (qB (qBin opEq (qVar 15) (qC (PyData.str "whole")))) (qC (PyData.int 0)) (qBin opSub (qBin opAdd (qVar 7) (qVar 15)) (qVar 16))) (qCons (qVar 12) qNil))) (qSeq (qSet 17 (qIf (qB (qBin (opIs false) (qVar 3) (qC PyData.none))) (qC (PyData.str "none")) (qIf (qB (qBin opEq (qVar 3) (qVar 4))) (qC (PyData.str "newest")) (qC (PyData.str "lower"))))) (qDrop (qAppend (qVar 8) (qTup (qCons (qTup (qCons (qVar 2) (qCons (qVar 17) (qCons (qVar 5) (qCons (qVar 6) qNil))))) (qCons (qVar 14) (qCons (qVar 15) (qCons (qVar 7) qNil))))))))))) PD [some (.x (planψ K B)), some (.d d1), some (.d (.str st)), some (.d (endD hd)), some (.d (.int nw)), some (.d (.tuple (come.map PyData.str))), some (.d (.bool rung)), some (.d (.int err)), some (.o 0), some (.d (.str so)), some (.d (.int n)), some (.d (.str age)), some (.d (.str e.nx)), some (.d (.bool e.hold)), some (.d (.bool e.ring)), some (.d (HN.stD e.step)), v16, v17] [.lst acc] := by
  have hacc' : acc.length < 100000 := by omega
  have main : ∀ hd' : Option Int, hd' = (if e.hold = true then some n else hd) → (qSeq (qSet 16 (qBin opSub (qDGet2K K (qIxP K 4 (qVar 0)) (qVar 12) (qC (PyData.int 0))) (qDGet2K K (qIxP K 4 (qVar 0)) (qVar 2) (qC (PyData.int 0))))) (qSeq (qPar 7 2 (qCons (qIf (qB (qBin opEq (qVar 15) (qC (PyData.str "whole")))) (qC (PyData.int 0)) (qBin opSub (qBin opAdd (qVar 7) (qVar 15)) (qVar 16))) (qCons (qVar 12) qNil))) (qSeq (qSet 17 (qIf (qB (qBin (opIs false) (qVar 3) (qC PyData.none))) (qC (PyData.str "none")) (qIf (qB (qBin opEq (qVar 3) (qVar 4))) (qC (PyData.str "newest")) (qC (PyData.str "lower"))))) (qDrop (qAppend (qVar 8) (qTup (qCons (qTup (qCons (qVar 2) (qCons (qVar 17) (qCons (qVar 5) (qCons (qVar 6) qNil))))) (qCons (qVar 14) (qCons (qVar 15) (qCons (qVar 7) qNil)))))))))) PD [some (.x (planψ K B)), some (.d d1), some (.d (.str st)), some (.d (endD hd')), some (.d (.int nw)), some (.d (.tuple (come.map PyData.str))), some (.d (.bool rung)), some (.d (.int err)), some (.o 0), some (.d (.str so)), some (.d (.int n)), some (.d (.str age)), some (.d (.str e.nx)), some (.d (.bool e.hold)), some (.d (.bool e.ring)), some (.d (HN.stD e.step)), v16, v17] [.lst acc] := by
    intro hd' hh
    rw [← hh] at k
    refine ⟨_, rfl, ⟨_, .inl rfl⟩, wksD B.worths, .str e.nx, .inr e.nx, .int 0, .inl rfl, rfl, rfl, rfl, ?_⟩
    rw [valD_worth]
    refine ⟨_, rfl, ⟨_, .inl rfl⟩, wksD B.worths, .str st, .inr st, .int 0, .inl rfl, rfl, rfl, rfl, ?_⟩
    rw [valD_worth]
    have rest : ∀ er : Int, er = errStep B e st err → (qSeq (qSet 17 (qIf (qB (qBin (opIs false) (qVar 3) (qC PyData.none))) (qC (PyData.str "none")) (qIf (qB (qBin opEq (qVar 3) (qVar 4))) (qC (PyData.str "newest")) (qC (PyData.str "lower"))))) (qDrop (qAppend (qVar 8) (qTup (qCons (qTup (qCons (qVar 2) (qCons (qVar 17) (qCons (qVar 5) (qCons (qVar 6) qNil))))) (qCons (qVar 14) (qCons (qVar 15) (qCons (qVar 7) qNil)))))))) PD [some (.x (planψ K B)), some (.d d1), some (.d (.str e.nx)), some (.d (endD hd')), some (.d (.int nw)), some (.d (.tuple (come.map PyData.str))), some (.d (.bool rung)), some (.d (.int er)), some (.o 0), some (.d (.str so)), some (.d (.int n)), some (.d (.str age)), some (.d (.str e.nx)), some (.d (.bool e.hold)), some (.d (.bool e.ring)), some (.d (HN.stD e.step)), some (.d (.int (HN.wOf B.worths e.nx - HN.wOf B.worths st))), v17] [.lst acc] := by
      intro er he
      rw [← he] at k
      cases hd' with
      | none => exact ⟨hacc', k _ _⟩
      | some h =>
        show (match (h == nw) with | true => _ | false => _)
        by_cases c : h = nw
        · subst c
          rw [beq_self_eq_true]
          have kk := k (some (.d (.int (HN.wOf B.worths e.nx - HN.wOf B.worths st)))) (some (.d (.str "newest")))
          rw [show placeAt (some h) (some h) = "newest" from if_pos rfl] at kk
          exact ⟨hacc', kk⟩
        · rw [beq_eq_false_iff_ne.mpr c]
          have kk := k (some (.d (.int (HN.wOf B.worths e.nx - HN.wOf B.worths st)))) (some (.d (.str "lower")))
          rw [show placeAt (some h) (some nw) = "lower" from if_neg (fun z => c (Option.some.inj z).symm)] at kk
          exact ⟨hacc', kk⟩
    clear k
    obtain ⟨nx, hold, ring, step⟩ := e
    cases step with
    | none => exact rest 0 rfl
    | some i => exact rest _ rfl
  obtain ⟨nx, hold, ring, step⟩ := e
  cases hold with
  | true => exact main (some n) rfl
  | false => exact main hd rfl
abbrev nmLGone : List Str := ["_law_plan", "_law_row", "_law_state", "_law_held", "_law_newest", "_law_come", "_law_rung", "_law_error", "_law_found", "_law_sort", "_law_number", "_law_age", "_law_behind", "_law_holds", "_law_rings", "_law_step", "_law_gap", "_law_place"]
theorem scLGone : FnScope nmLGone ["_law_plan", "_law_row"] (defScope sLGone) := ⟨rfl, rfl, rfl, by decide +kernel, rfl, by decide +kernel, by decide +kernel⟩
theorem okLGone {f : Addr} {fd : FuncData} (D : Def K mg "_law_gone" sLGone ["_law_plan", "_law_row"] f fd) (T : Txt K mg)
    {fLEffectOf : Addr} {fdLEffectOf : FuncData} (DLEffectOf : Def K mg "_law_effect_of" sLEffectOf ["_law_plan", "_law_state", "_law_sort", "_law_age"] fLEffectOf fdLEffectOf) (GLEffectOf : FnOk P w K mg base CX0 1 fLEffectOf fdLEffectOf ["_law_plan", "_law_state", "_law_sort", "_law_age"] (liftSp K (pspLEffectOf K)))
    {fLAgeOf : Addr} {fdLAgeOf : FuncData} (DLAgeOf : Def K mg "_law_age_of" sLAgeOf ["_law_number", "_law_held"] fLAgeOf fdLAgeOf) (GLAgeOf : FnOk P w K mg base CX0 1 fLAgeOf fdLAgeOf ["_law_number", "_law_held"] (liftSp K pspLAgeOf)) :
    FnOk P w K mg base CX0 2 f fd ["_law_plan", "_law_row"] (liftSp K (pspGone K)) := by
  refine fnP D.F scLGone (fun cdv A outer s H E hr R => (bw_cons (sw_asgV (n := 6) rfl (aw_cons (ew_ixP (K := K) rfl 2 (ew_var 0)) (aw_cons ew_non (aw_cons ew_non (aw_cons (ew_tup aw_nil) (aw_cons ew_bl (aw_cons ew_int aw_nil)))))) (gvw_cons (gw_name (i := 2) scLGone.nd) (gvw_cons (gw_name (i := 3) scLGone.nd) (gvw_cons (gw_name (i := 4) scLGone.nd) (gvw_cons (gw_name (i := 5) scLGone.nd) (gvw_cons (gw_name (i := 6) scLGone.nd) (gvw_cons (gw_name (i := 7) scLGone.nd) gvw_nil)))))))
      (bw_cons (sw_set (i := 8) scLGone.nd (ew_lstO (aw_cons (ew_tup (aw_cons (ew_tup (aw_cons (ew_var 2) (aw_cons ew_str (aw_cons (ew_tup aw_nil) (aw_cons ew_bl aw_nil))))) (aw_cons ew_bl (aw_cons ew_int (aw_cons ew_int aw_nil))))) aw_nil)))
      (bw_cons (sw_forW PassesOwn.never rfl (iw_seq (ew_var 1)) (gw_tup (n := 2) rfl (gsw_cons (gw_name (i := 9) scLGone.nd) (gsw_cons (gw_name (i := 10) scLGone.nd) gsw_nil))) (bw_cons (sw_set (i := 11) scLGone.nd (ew_call GLAgeOf (hr.mono (by decide)) DLAgeOf.m DLAgeOf.F.kp DLAgeOf.b (aw_cons (ew_var 10) (aw_cons (ew_var 3) aw_nil))))
      (bw_cons (sw_asg (ew_call GLEffectOf (hr.mono (by decide)) DLEffectOf.m DLEffectOf.F.kp DLEffectOf.b (aw_cons (ew_var 0) (aw_cons (ew_var 2) (aw_cons (ew_var 9) (aw_cons (ew_var 11) aw_nil))))) (gw_tup (n := 4) rfl (gsw_cons (gw_name (i := 12) scLGone.nd) (gsw_cons (gw_name (i := 13) scLGone.nd) (gsw_cons (gw_name (i := 14) scLGone.nd) (gsw_cons (gw_name (i := 15) scLGone.nd) gsw_nil))))))
      (bw_cons (sw_if (tw_ww (ww_or (tw_cmp ow_is (ew_var 4) ew_non) (ww_or1 (tw_cmp ow_gt (ew_var 10) (ew_var 4))))) (bw_one (sw_par3 (i := 4) (j := 5) (l := 6) rfl scLGone.nd (aw_cons (ew_var 10) (aw_cons (ew_tup aw_nil) (aw_cons ew_bl aw_nil))) (fun ha => ps_par3 (i := 4) (j := 5) (l := 6) rfl scLGone.nd rfl rfl rfl (by decide) (by decide) (by decide) rfl rfl rfl ha rfl))) bw_nil)
      (bw_cons (sw_if (tw_cmp (ow_eq (hu65 hr)) (ew_var 10) (ew_var 4)) (bw_one (sw_par (i := 5) (j := 6) rfl scLGone.nd (aw_cons (ew_ty b_tuple T.tuple (by decide +kernel) (aw_cons (ew_sortTx rfl T.sorted T.set (ew_bin ow_add (ew_var 5) (ew_tup (aw_cons (ew_var 9) aw_nil)))) aw_nil)) (aw_cons (ew_or (ew_var 6) (ew_one (ew_var 14))) aw_nil)) (fun ha => ps_par (i := 5) (j := 6) rfl scLGone.nd rfl rfl (by decide) rfl rfl ha rfl))) bw_nil)
      (bw_cons (sw_set (i := 3) scLGone.nd (ew_if (tw_tru (ew_var 13)) (ew_var 10) (ew_var 3)))
      (bw_cons (sw_set (i := 16) scLGone.nd (ew_bin ow_sub (ew_dget2KK (K := K) rfl (hu65 hr) (ew_ixP (K := K) rfl 4 (ew_var 0)) (ew_var 12) ew_int ⟨rfl, rfl, rfl, rfl⟩) (ew_dget2KK (K := K) rfl (hu65 hr) (ew_ixP (K := K) rfl 4 (ew_var 0)) (ew_var 2) ew_int ⟨rfl, rfl, rfl, rfl⟩)))
      (bw_cons (sw_par (i := 7) (j := 2) rfl scLGone.nd (aw_cons (ew_if (tw_cmp (ow_eq (hu65 hr)) (ew_var 15) ew_str) ew_int (ew_bin ow_sub (ew_bin ow_add (ew_var 7) (ew_var 15)) (ew_var 16))) (aw_cons (ew_var 12) aw_nil)) (fun ha => ps_par (i := 7) (j := 2) rfl scLGone.nd rfl rfl (by decide) rfl rfl ha rfl))
      (bw_cons (sw_set (i := 17) scLGone.nd (ew_if (tw_cmp ow_is (ew_var 3) ew_non) ew_str (ew_if (tw_cmp (ow_eq (hu65 hr)) (ew_var 3) (ew_var 4)) ew_str ew_str)))
      (bw_one (sw_expr (ew_append (ew_var 8) (ew_tup (aw_cons (ew_tup (aw_cons (ew_var 2) (aw_cons (ew_var 17) (aw_cons (ew_var 5) (aw_cons (ew_var 6) aw_nil))))) (aw_cons (ew_var 14) (aw_cons (ew_var 15) (aw_cons (ew_var 7) aw_nil)))))))))))))))))
      (bw_one (sw_ret (ew_var 8))))))) (fun dvs O PQ q => ?_)
  obtain ⟨B, as, rfl, rfl, hso, hl, k⟩ := q
  refine ⟨rfl, ?_⟩
  refine ⟨_, rfl, ?_⟩
  refine ⟨rfl, rfl, ?_⟩
  refine loopW_ind (fun ds Γ O => ∃ (a2 : List (Str × Int)) (s : Std) (nw hd : Option Int) (err : Int) (acc : List PyData) (v9 v10 v11 v12 v13 v14 v15 v16 v17 : Option DV), ds = (a2.map letP).map DV.d ∧ (∀ a ∈ a2, a.1 ∈ B.sorts) ∧ Way s nw hd ∧ riseS s.come ∧ s.come.length + a2.length ≤ 50 ∧ acc.length + a2.length ≤ 60 ∧
      Γ = [some (.x (planψ K B)), some (.d (.list (as.map letP))), some (.d (.str s.st)), some (.d (endD hd)), some (.d (endD nw)), some (.d (.tuple (s.come.map PyData.str))), some (.d (.bool s.rung)), some (.d (.int err)), some (.o 0), v9, v10, v11, v12, v13, v14, v15, v16, v17] ∧ O = [.lst acc] ∧
      ∀ ms, Goes (HN.effOf B.rows) s nw hd a2 ms → PQ (.d (.list (acc ++ gnE B err ms))) [])
    (fun Γ O j => ?_) (fun d ds Γ O j ih => ?_) _ _ _ ⟨as, firstStd B, none, none, 0, [.tuple [stdD (firstStd B), .bool false, .int 0, .int 0]], none, none, none, none, none, none, none, none, none, rfl, hso, way_first _, ⟨List.nodup_nil, rfl⟩, by show 0 + as.length ≤ 50; omega, by show 1 + as.length ≤ 60; omega, rfl, rfl, fun ms hm => k ms hm⟩
  · obtain ⟨a2, s, nw, hd, err, acc, v9, v10, v11, v12, v13, v14, v15, v16, v17, h1, h2, w, hr, l1, l2, rfl, rfl, kk⟩ := j
    have : a2 = [] := by cases a2 with | nil => rfl | cons _ _ => cases h1
    subst this
    have := kk [] rfl
    rw [show gnE B err [] = [] from rfl, List.append_nil] at this
    exact ⟨trivial, .inr (.inr ⟨Nat.zero_le _, acc, rfl, this⟩)⟩
  · obtain ⟨a2, s, nw, hd, err, acc, v9, v10, v11, v12, v13, v14, v15, v16, v17, h1, h2, w, hr, l1, l2, rfl, rfl, kk⟩ := j
    cases a2 with
    | nil => cases h1
    | cons a a2 =>
      cases h1
      rw [List.length_cons] at l1 l2
      have hal : acc.length < 1000 := by omega
      refine ⟨trivial, rfl, ?_⟩
      refine ⟨rfl, a.2, hd, rfl, rfl, ?_⟩
      refine ⟨rfl, B, (s.st, a.1, ageAt a.2 hd), rfl, rfl, ?_⟩
      obtain ⟨e, he⟩ : ∃ e, e = HN.effOf B.rows (s.st, a.1, ageAt a.2 hd) := ⟨_, rfl⟩
      rw [← he]
      refine ⟨rfl, ?_⟩
      -- the turn ends behind a standing
      have fin : ∀ (s' : Std) (nw' : Int) (w9 w10 w11 w12 w13 w14 w15 w16 w17 : Option DV), Behind s (spotOf a.2 nw hd) a.1 e s' → some nw' = (if spotOf a.2 nw hd = "top" then some a.2 else nw) → riseS s'.come → s'.come.length ≤ s.come.length + 1 →
          ∃ (a3 : List (Str × Int)) (s3 : Std) (nw3 hd3 : Option Int) (err3 : Int) (acc3 : List PyData) (v9 v10 v11 v12 v13 v14 v15 v16 v17 : Option DV), (a2.map letP).map DV.d = (a3.map letP).map DV.d ∧ (∀ a ∈ a3, a.1 ∈ B.sorts) ∧ Way s3 nw3 hd3 ∧ riseS s3.come ∧ s3.come.length + a3.length ≤ 50 ∧ acc3.length + a3.length ≤ 60 ∧
          [some (.x (planψ K B)), some (.d (.list (as.map letP))), some (.d (.str s'.st)), some (.d (endD (if e.hold = true then some a.2 else hd))), some (.d (.int nw')), some (.d (.tuple (s'.come.map PyData.str))), some (.d (.bool s'.rung)), some (.d (.int (errStep B e s.st err))), some (.o 0), w9, w10, w11, w12, w13, w14, w15, w16, w17] = [some (.x (planψ K B)), some (.d (.list (as.map letP))), some (.d (.str s3.st)), some (.d (endD hd3)), some (.d (endD nw3)), some (.d (.tuple (s3.come.map PyData.str))), some (.d (.bool s3.rung)), some (.d (.int err3)), some (.o 0), v9, v10, v11, v12, v13, v14, v15, v16, v17] ∧
          [Ob.lst (acc ++ [.tuple [stdD s', .bool e.ring, HN.stD e.step, .int (errStep B e s.st err)]])] = [Ob.lst acc3] ∧ ∀ ms, Goes (HN.effOf B.rows) s3 nw3 hd3 a3 ms → PQ (.d (.list (acc3 ++ gnE B err3 ms))) [] := by
        intro s' nw' w9 w10 w11 w12 w13 w14 w15 w16 w17 hb hnw hrise hlen
        refine ⟨a2, s', some nw', if e.hold = true then some a.2 else hd, errStep B e s.st err, _, w9, w10, w11, w12, w13, w14, w15, w16, w17, rfl, fun b hb => h2 b (List.mem_cons_of_mem _ hb), ?_, hrise, by omega, by rw [List.length_append]; show acc.length + 1 + a2.length ≤ 60; omega, rfl, rfl, fun ms hm => ?_⟩
        · have := way_behind w hb
          rw [← hnw] at this
          exact this
        · have := kk ((s, spotOf a.2 nw hd, a.1, e, s') :: ms) ⟨s', ms, he ▸ hb, he ▸ rfl, by
            have hm' := hm
            rw [hnw, he] at hm'
            exact hm'⟩
          rw [List.append_assoc]
          exact this
      have hpl : ∀ nw' : Int, some nw' = (if spotOf a.2 nw hd = "top" then some a.2 else nw) → placeAt (if e.hold = true then some a.2 else hd) (some nw') = (if e.hold = true then (if spotOf a.2 nw hd = "top" ∨ spotOf a.2 nw hd = "newest" then ("newest" : Str) else "lower") else if spotOf a.2 nw hd = "top" ∧ s.place = "newest" then ("lower" : Str) else s.place) := fun nw' hnw => by
        rw [hnw]; exact place_behind w a.2 e.hold
      rcases spot_cases a.2 nw hd with ⟨c1, c2⟩ | ⟨c1, c2⟩ | ⟨c1, c2, m, c3, c4⟩
      · have hnw : some a.2 = (if spotOf a.2 nw hd = "top" then some a.2 else nw) := by rw [if_pos c1]
        have hb : Behind s (spotOf a.2 nw hd) a.1 e ⟨e.nx, placeAt (if e.hold = true then some a.2 else hd) (some a.2), [a.1], e.ring⟩ := ⟨rfl, hpl a.2 hnw, by rw [if_pos c1], fun _ => rfl, fun z => (by rw [c1] at z; cases z), fun z => (by rw [c1] at z; cases z), fun z => (z c1).elim⟩
        have goal : (qSeq (qIfS (qB (qBin opEq (qVar 10) (qVar 4))) (qPar 5 6 (qCons (qBlt oTuple (qCons (qSortTx (qBin opAdd (qVar 5) (qTup (qCons (qVar 9) qNil)))) qNil)) (qCons (qOrV (qVar 6) (qVar 14)) qNil))) qNext) (qSeq (qSet 3 (qIf (qTru (qVar 13)) (qVar 10) (qVar 3))) (qSeq (qSet 16 (qBin opSub (qDGet2K K (qIxP K 4 (qVar 0)) (qVar 12) (qC (PyData.int 0))) (qDGet2K K (qIxP K 4 (qVar 0)) (qVar 2) (qC (PyData.int 0))))) (qSeq (qPar 7 2 (qCons (qIf (qB (qBin opEq (qVar 15) (qC (PyData.str "whole")))) (qC (PyData.int 0)) (qBin opSub (qBin opAdd (qVar 7) (qVar 15)) (qVar 16))) (qCons (qVar 12) qNil))) (qSeq (qSet 17 (qIf (qB (qBin (opIs false) (qVar 3) (qC PyData.none))) (qC (PyData.str "none")) (qIf (qB (qBin opEq (qVar 3) (qVar 4))) (qC (PyData.str "newest")) (qC (PyData.str "lower"))))) (qDrop (qAppend (qVar 8) (qTup (qCons (qTup (qCons (qVar 2) (qCons (qVar 17) (qCons (qVar 5) (qCons (qVar 6) qNil))))) (qCons (qVar 14) (qCons (qVar 15) (qCons (qVar 7) qNil)))))))))))) { nx := fun Γ O => qLoopW 1 (fun _ => True) (qgTup 2 (qgCons (qgName 9) (qgCons (qgName 10) qgNil))) (qSeq (qSet 11 (qCall pspLAgeOf (qCons (qVar 10) (qCons (qVar 3) qNil)))) (qSeq (qAsg (qCall (pspLEffectOf K) (qCons (qVar 0) (qCons (qVar 2) (qCons (qVar 9) (qCons (qVar 11) qNil))))) (qgTup 4 (qgCons (qgName 12) (qgCons (qgName 13) (qgCons (qgName 14) (qgCons (qgName 15) qgNil)))))) (qSeq (qIfS (qOrT (qB (qBin (opIs false) (qVar 4) (qC PyData.none))) (qB (qBin opGt (qVar 10) (qVar 4)))) (qPar3 4 5 6 (qCons (qVar 10) (qCons (qTup qNil) (qCons (qC (PyData.bool false)) qNil)))) qNext) (qSeq (qIfS (qB (qBin opEq (qVar 10) (qVar 4))) (qPar 5 6 (qCons (qBlt oTuple (qCons (qSortTx (qBin opAdd (qVar 5) (qTup (qCons (qVar 9) qNil)))) qNil)) (qCons (qOrV (qVar 6) (qVar 14)) qNil))) qNext) (qSeq (qSet 3 (qIf (qTru (qVar 13)) (qVar 10) (qVar 3))) (qSeq (qSet 16 (qBin opSub (qDGet2K K (qIxP K 4 (qVar 0)) (qVar 12) (qC (PyData.int 0))) (qDGet2K K (qIxP K 4 (qVar 0)) (qVar 2) (qC (PyData.int 0))))) (qSeq (qPar 7 2 (qCons (qIf (qB (qBin opEq (qVar 15) (qC (PyData.str "whole")))) (qC (PyData.int 0)) (qBin opSub (qBin opAdd (qVar 7) (qVar 15)) (qVar 16))) (qCons (qVar 12) qNil))) (qSeq (qSet 17 (qIf (qB (qBin (opIs false) (qVar 3) (qC PyData.none))) (qC (PyData.str "none")) (qIf (qB (qBin opEq (qVar 3) (qVar 4))) (qC (PyData.str "newest")) (qC (PyData.str "lower"))))) (qDrop (qAppend (qVar 8) (qTup (qCons (qTup (qCons (qVar 2) (qCons (qVar 17) (qCons (qVar 5) (qCons (qVar 6) qNil))))) (qCons (qVar 14) (qCons (qVar 15) (qCons (qVar 7) qNil))))))))))))))) { nx := qRet (qVar 8) { nx := fun _ O' => RetN 0 PQ (.d .none) O', rt := RetN 0 PQ }, rt := RetN 0 PQ } ((a2.map letP).map DV.d) (dropS 1 Γ) (O.take 1), rt := RetN 0 PQ, bk := fun _ _ => False, ct := fun _ _ => False } [some (.x (planψ K B)), some (.d (.list (as.map letP))), some (.d (.str s.st)), some (.d (endD hd)), some (.d (.int a.2)), some (.d (.tuple [])), some (.d (.bool false)), some (.d (.int err)), some (.o 0), some (.d (.str a.1)), some (.d (.int a.2)), some (.d (.str (ageAt a.2 hd))), some (.d (.str e.nx)), some (.d (.bool e.hold)), some (.d (.bool e.ring)), some (.d (HN.stD e.step)), v16, v17] [.lst acc] := by
          show (match (a.2 == a.2) with | true => _ | false => _)
          rw [beq_self_eq_true]
          refine ⟨by show 0 + 1 ≤ 100000; decide, ?_⟩
          refine ⟨[a.1], rfl, by show 1 < 60; decide, fun ys nd so hm => ?_⟩
          have := rise_one nd hm
          subst this
          refine gone_tail (e := e) (come := [a.1]) (rung := e.ring) hal fun w16 w17 => ih _ _ (fin _ _ _ _ _ _ _ _ _ _ _ hb hnw ⟨nd, so⟩ (by show 1 ≤ _; omega))
        rcases c2 with rfl | ⟨m, rfl, hm⟩
        · exact goal
        · show (match decide (a.2 > m) with | true => _ | false => _)
          rw [decide_eq_true hm]
          exact goal
      · subst c2
        have ct : spotOf a.2 (some a.2) hd ≠ "top" := by rw [c1]; decide
        have hnw : some a.2 = (if spotOf a.2 (some a.2) hd = "top" then some a.2 else some a.2) := by rw [if_neg ct]
        show (match decide (a.2 > a.2) with | true => _ | false => _)
        rw [decide_eq_false (by omega)]
        show (match (a.2 == a.2) with | true => _ | false => _)
        rw [beq_self_eq_true]
        refine ⟨by rw [List.length_map]; show s.come.length + 1 ≤ 100000; omega, ?_⟩
        refine ⟨s.come ++ [a.1], by rw [List.map_append]; rfl, by rw [List.length_append]; show s.come.length + 1 < 60; omega, fun ys nd so hm => ?_⟩
        have hb : Behind s (spotOf a.2 (some a.2) hd) a.1 e ⟨e.nx, placeAt (if e.hold = true then some a.2 else hd) (some a.2), ys, s.rung || e.ring⟩ := by
          refine ⟨rfl, hpl a.2 hnw, by rw [if_neg ct, if_pos c1], fun z => (ct z).elim, fun _ hs => ?_, fun _ hs => ⟨rise_new hr hs nd hm, so⟩, fun _ z => (z c1).elim⟩
          exact rise_same hr nd so fun x => by
            rw [hm x, List.mem_append, List.mem_singleton]
            exact ⟨fun o => o.elim id fun z => z ▸ hs, .inl⟩
        have hlen : ys.length ≤ s.come.length + 1 := by
          have := nd_lenS nd fun x hx => (hm x).mp hx
          rwa [List.length_append] at this
        obtain ⟨sst, spl, sco, sru⟩ := s
        cases sru with
        | true => exact gone_tail (e := e) (come := ys) (rung := true) hal fun w16 w17 => ih _ _ (fin _ _ _ _ _ _ _ _ _ _ _ hb hnw ⟨nd, so⟩ hlen)
        | false => exact gone_tail (e := e) (come := ys) (rung := e.ring) hal fun w16 w17 => ih _ _ (fin _ _ _ _ _ _ _ _ _ _ _ hb hnw ⟨nd, so⟩ hlen)
      · subst c3
        have hnw : some m = (if spotOf a.2 (some m) hd = "top" then some a.2 else some m) := by rw [if_neg c1]
        have hb : Behind s (spotOf a.2 (some m) hd) a.1 e ⟨e.nx, placeAt (if e.hold = true then some a.2 else hd) (some m), s.come, s.rung⟩ := ⟨rfl, hpl m hnw, by rw [if_neg c1, if_neg c2], fun z => (c1 z).elim, fun z => (c2 z).elim, fun z => (c2 z).elim, fun _ _ => rfl⟩
        show (match decide (a.2 > m) with | true => _ | false => _)
        rw [decide_eq_false (by omega)]
        show (match (a.2 == m) with | true => _ | false => _)
        rw [beq_eq_false_iff_ne.mpr (by omega)]
        exact gone_tail (e := e) hal fun w16 w17 => ih _ _ (fin _ _ _ _ _ _ _ _ _ _ _ hb hnw hr (by show s.come.length ≤ _; omega))
end
end PW
namespace PW
open PySem PySem.Spec PyProof.Rows L2
section
variable {P : Program} {w : World} {K : PySem.W.Frag} {mg : Str → Option Value} {base : Heap}
theorem behind_uniq {s : Std} {spot sort : Str} {e : HN.Eff} {s1 s2 : Std} (a : Behind s spot sort e s1) (b : Behind s spot sort e s2) : s1 = s2 := by
  obtain ⟨st1, p1, c1, r1⟩ := s1
  obtain ⟨st2, p2, c2, r2⟩ := s2
  have h1 : st1 = st2 := a.st.trans b.st.symm
  have h2 : p1 = p2 := a.place.trans b.place.symm
  have h3 : r1 = r2 := a.rung.trans b.rung.symm
  have h4 : c1 = c2 := by
    by_cases t : spot = "top"
    · exact (a.top t).trans (b.top t).symm
    · by_cases n : spot = "newest"
      · by_cases m : sort ∈ s.come
        · exact (a.old n m).trans (b.old n m).symm
        · obtain ⟨x1, x2⟩ := a.new n m
          obtain ⟨y1, y2⟩ := b.new n m
          exact HN.sortedS_uniq (x1.trans y1.symm) x2 y2
      · exact (a.other t n).trans (b.other t n).symm
  subst h1 h2 h3 h4
  rfl
theorem told_eff {B : HN.Bk} (g : HN.GoodBk B) : HN.effOf (HN.toldB B).rows = HN.effOf B.rows := funext fun k => HN.effOf_toldQ _ k g.2.2.2.1.1
theorem told_goes {B : HN.Bk} (g : HN.GoodBk B) {as : List (Str × Int)} {ms : List Mv} (h : Goes (HN.effOf (HN.toldB B).rows) ⟨(HN.toldB B).first, "none", [], false⟩ none none as ms) : Goes (HN.effOf B.rows) (firstStd B) none none as ms := by
  rw [told_eff g] at h
  exact h
theorem goes_uniq {B : HN.Bk} {as : List (Str × Int)} {ms ms2 : List Mv} (h : Goes (HN.effOf B.rows) (firstStd B) none none as ms) (h2 : Goes (HN.effOf B.rows) (firstStd B) none none as ms2) : ms = ms2 := by
  have key : ∀ {as : List (Str × Int)} {s : Std} {nw hd : Option Int} {ms ms2 : List Mv}, Goes (HN.effOf B.rows) s nw hd as ms → Goes (HN.effOf B.rows) s nw hd as ms2 → ms = ms2 := by
    intro as
    induction as with
    | nil =>
      intro s nw hd ms ms2 h h2
      have e1 : ms = [] := h
      have e2 : ms2 = [] := h2
      rw [e1, e2]
    | cons a as ih =>
      intro s nw hd ms ms2 h h2
      obtain ⟨s1, r1, b1, rfl, g1⟩ := h
      obtain ⟨s2, r2, b2, rfl, g2⟩ := h2
      have e := behind_uniq b1 b2
      subst e
      rw [ih g1 g2]
  exact key h h2
/-- the last of what the law's own walk tells -/
theorem gnE_last {B : HN.Bk} : ∀ {ms : List Mv} {err : Int} {m : Mv}, ms.getLast? = some m → ∃ er, (gnE B err ms).getLast? = some (.tuple [stdD m.2.2.2.2, .bool m.2.2.2.1.ring, HN.stD m.2.2.2.1.step, .int er])
  | [], _, _, h => by cases h
  | [x], err, m, h => by
    cases h
    exact ⟨_, rfl⟩
  | x :: y :: ms, err, m, h => by
    rw [List.getLast?_cons_cons] at h
    obtain ⟨er, e⟩ := gnE_last (ms := y :: ms) (err := errStep B x.2.2.2.1 x.1.st err) h
    exact ⟨er, by
      show (PyData.tuple _ :: gnE B _ (y :: ms)).getLast? = _
      have : gnE B (errStep B x.2.2.2.1 x.1.st err) (y :: ms) ≠ [] := fun z => by cases z
      rw [← e]
      cases q : gnE B (errStep B x.2.2.2.1 x.1.st err) (y :: ms) with
      | nil => exact (this q).elim
      | cons u us => rw [List.getLast?_cons_cons]⟩
theorem gnD_last {B : HN.Bk} {ms : List Mv} {m : Mv} (h : ms.getLast? = some m) : ∃ er, (gnD B ms).getLast? = some (.tuple [stdD m.2.2.2.2, .bool m.2.2.2.1.ring, HN.stD m.2.2.2.1.step, .int er]) := by
  obtain ⟨er, e⟩ := gnE_last (B := B) (err := 0) h
  refine ⟨er, ?_⟩
  unfold gnD
  cases q : gnE B 0 ms with
  | nil => rw [q] at e; cases e
  | cons u us => rw [List.getLast?_cons_cons, ← q]; exact e
theorem gnD_std {B : HN.Bk} (ms : List Mv) : ∃ r p e, (gnD B ms).getLast? = some (.tuple [stdD (lastS (firstStd B) ms), r, p, e]) := by
  cases ms with
  | nil => exact ⟨_, _, _, rfl⟩
  | cons m ms =>
    obtain ⟨x, h1, h2, _⟩ := at_last (s0 := firstStd B) (ms := m :: ms) (by simp)
    have : ∃ g, (m :: ms).getLast? = some g := by
      rw [List.getLast?_eq_getElem?]
      exact ⟨_, List.getElem?_eq_getElem (by simp)⟩
    obtain ⟨g, hg⟩ := this
    have key : ∀ {ms : List Mv} {g : Mv}, ms.getLast? = some g → lastS (firstStd B) ms = g.2.2.2.2 := by
      intro ms
      induction ms with
      | nil => intro g h; cases h
      | cons m ms ih =>
        intro g h
        cases ms with
        | nil => cases h; rfl
        | cons m2 ms =>
          rw [List.getLast?_cons_cons] at h
          exact ih h
    obtain ⟨er, e⟩ := gnD_last (B := B) hg
    exact ⟨_, _, _, by rw [key hg]; exact e⟩

theorem sorts_ne {B : HN.Bk} (g : HN.GoodBk B) : B.sorts ≠ [] := fun z => by have := g.2.1.1; rw [z] at this; exact absurd this (by decide)
def pspLStd (K : PySem.W.Frag) : PSp := fun dvs O Q => ∃ (B : HN.Bk) (as : List (Str × Int)), dvs = [.x (planψ K B), .d (.list (as.map letP))] ∧ O = [] ∧ (∀ a ∈ as, a.1 ∈ B.sorts) ∧ as.length ≤ 50 ∧ ∀ ms, Goes (HN.effOf B.rows) (firstStd B) none none as ms → Q (.d (stdD (lastS (firstStd B) ms))) []
def pspPickX (K : PySem.W.Frag) : PSp := fun dvs O Q => ∃ (its : List DV), dvs = [.o 0, .x (lstψ K its)] ∧ O = [.dr] ∧ 0 < its.length ∧ its.length ≤ 1000 ∧ (∀ z ∈ its, noO z = true) ∧ ∀ z ∈ its, Q z [.dr]
abbrev nmLStandingBehind : List Str := ["_law_plan", "_law_row"]
theorem scLStandingBehind : FnScope nmLStandingBehind ["_law_plan", "_law_row"] (defScope sLStandingBehind) := ⟨rfl, rfl, rfl, by decide +kernel, rfl, by decide +kernel, by decide +kernel⟩
theorem okLStandingBehind {f : Addr} {fd : FuncData} (D : Def K mg "_law_standing_behind" sLStandingBehind ["_law_plan", "_law_row"] f fd) (T : Txt K mg)
    {fLGone : Addr} {fdLGone : FuncData} (DLGone : Def K mg "_law_gone" sLGone ["_law_plan", "_law_row"] fLGone fdLGone) (GLGone : FnOk P w K mg base CX0 2 fLGone fdLGone ["_law_plan", "_law_row"] (liftSp K (pspGone K))) :
    FnOk P w K mg base CX0 3 f fd ["_law_plan", "_law_row"] (liftSp K (pspLStd K)) := by
  refine fnP D.F scLStandingBehind (fun cdv A outer s H E hr R => (bw_one (sw_ret (ew_ix (ew_ix (ew_call GLGone (hr.mono (by decide)) DLGone.m DLGone.F.kp DLGone.b (aw_cons (ew_var 0) (aw_cons (ew_var 1) aw_nil))) (ew_neg ew_int)) ew_int)))) (fun dvs O PQ q => ?_)
  obtain ⟨B, as, rfl, rfl, hso, hl, k⟩ := q
  refine ⟨rfl, ?_⟩
  refine ⟨rfl, B, as, rfl, rfl, hso, hl, fun ms hms => ?_⟩
  obtain ⟨r0, p0, e0, hg⟩ := gnD_std (B := B) ms
  have kk := k ms hms
  show (match atI (gnD B ms) (-1) with | some e => _ | none => False)
  rw [atI_last hg]
  exact kk
theorem okLPickX {f : Addr} {fd : FuncData} (D : Def K mg "_law_pick" sLPick ["_law_draws", "_law_xs"] f fd) (T : Txt K mg)
    {fLDraw : Addr} {fdLDraw : FuncData} (DLDraw : Def K mg "_law_draw" sLDraw ["_law_draws", "_law_many"] fLDraw fdLDraw) (GLDraw : FnOk P w K mg base CX0 1 fLDraw fdLDraw ["_law_draws", "_law_many"] (liftSp K pspDraw)) :
    FnOk P w K mg base CX0 2 f fd ["_law_draws", "_law_xs"] (liftSp K (pspPickX K)) := by
  refine fnP D.F scLPick (fun cdv A outer s H E hr R => (bw_one (sw_ret (ew_ixL (K := K) rfl (ew_var 1) (ew_call GLDraw (hr.mono (by decide)) DLDraw.m DLDraw.F.kp DLDraw.b (aw_cons (ew_var 0) (aw_cons (ew_lenL (K := K) rfl T.len (ew_var 1)) aw_nil))))))) (fun dvs O PQ q => ?_)
  obtain ⟨its, rfl, rfl, h0, h1, hn, k⟩ := q
  refine ⟨rfl, ?_⟩
  refine ⟨its, rfl, rfl, (its.length : Int), rfl, rfl, by omega, by omega, fun r r0 r1 => ?_⟩
  obtain ⟨j, rfl⟩ : ∃ j : Nat, r = (j : Int) := ⟨r.toNat, (Int.toNat_of_nonneg r0).symm⟩
  have hj : j < its.length := by omega
  have hm := List.getElem_mem hj
  have hz := hn _ hm
  have kk := k _ hm
  refine ⟨its, (j : Int), its[j], rfl, rfl, atI_nat (List.getElem?_eq_getElem hj), hz, ?_⟩
  revert hz kk
  generalize its[j] = z
  intro hz kk
  cases z with
  | o i => cases hz
  | d y => exact kk
  | x ψ => exact kk

/-- a thing that is no row: the error, its index -/
def spRowX (K : PySem.W.Frag) (C CE : Addr) : Sp := fun vs H _ E => ∃ (V : Hp) (B : HN.Bk) (dv : DV) (i : Int), Same V H ∧ DVs K [] V vs [.x (bookψ C B), dv] ∧ (∀ z ∈ B.sorts, (PyData.str z).canLay0 = true) ∧ BadAt K B.sorts dv i ∧ HN.ErrIs CE "index" (.int i) H E
theorem bad_noO {K : PySem.W.Frag} {sorts : List Str} {dv : DV} {i : Int} (h : BadAt K sorts dv i) : noO dv = true := by cases h <;> rfl
theorem okPCheckRowX {f fPBadIndex fBSorts C CE fE : Addr} {fd fdPBadIndex fdBSorts fdE : FuncData} (D : Def K mg "check_row" sPCheckRow ["book", "thing"] f fd)
    (DPBadIndex : Def K mg "bad_index" sPBadIndex ["thing", "sorts"] fPBadIndex fdPBadIndex) (GPBadIndex : FnOk P w K mg base CX0 3 fPBadIndex fdPBadIndex ["thing", "sorts"] (liftSp K (pspBadIndexA K)))
    (BC : HN.BookC K mg C) (MBSorts : Meth K C "sorts" fBSorts) (XBs : FnOk P w K mg base CX0 1 fBSorts fdBSorts ["self"] (HN.spBSorts C)) (bBSorts : Binds K fdBSorts ["self"] []) (RE : HN.ErrC P K mg "BadLetter" "BadLetter.__init__" "index" "index" CE fE fdE) :
    FnOk P w K mg base (L2.CX P w) 4 f fd ["book", "thing"] (spRowX K C CE) := by
  refine D.F.okX scPCheckRow (fun vs H Q E h => ?_) (fun cdv A outer s H vs Q E hr h => ?_)
  · obtain ⟨V, B, dv, i, _, d, _⟩ := h
    exact dvs_len d
  · obtain ⟨V, B, dv, i, vh, d, hz, hb, k⟩ := h
    cases d with
    | cons d1 d2 => cases d2 with
      | @cons u2 _ _ _ d2 d3 =>
        cases d3
        obtain ⟨p, rfl, hB⟩ := d1 V (Same.refl _)
        refine ⟨_, pss_cons (ps_set (i := 2) scPCheckRow.nd rfl (Or.inl rfl) (pe_call GPBadIndex (hr.mono (by decide)) (by rfl) DPBadIndex.m DPBadIndex.F.kp DPBadIndex.b .nil pass0 (pa_cons (pv 1) (pa_cons (pe_meth0 (pv 0) BC.cl MBSorts XBs (hr.mono (by decide)) bBSorts .nil pass0) pa_nil))))
          (pss_one (ps_if (pt_cmp (pc_notN (pv 2))) (pss_one (HN.ps_raiseE RE (by decide) (by decide) (by decide) rfl (hr.mono (by decide)) rfl (takes_of rfl rfl rfl rfl) (pa_cons (pv 2) pa_nil))) pss_nil)), ?_⟩
        have hBH : HN.BookAt C H p B := hB.same vh
        obtain ⟨dx, ls, lt, e, w', tr, hp, _⟩ := id hBH
        refine ⟨_, rfl, _, rfl, p, dx, _, rfl, hp, HN.bkF_no _ _ _ _ _ _ (by decide +kernel), p, B, rfl, hBH, fun l hl => ?_⟩
        have s1 := HN.sameN (o := .lst (B.sorts.map L2.V.str)) hl
        have vl : V l = none := Same.free vh hl
        have sv : Same V (upd V l (.lst (B.sorts.map L2.V.str))) := HN.sameN vl
        have vh1 : Same (upd V l (.lst (B.sorts.map L2.V.str))) (upd H l (.lst (B.sorts.map L2.V.str))) := fun b o e => by
          by_cases z : b = l
          · subst z; rw [upd_same] at e ⊢; exact e
          · rw [upd_ne z] at e ⊢; exact vh _ _ e
        refine ⟨[], upd V l (.lst (B.sorts.map L2.V.str)), [dv, .d (strsD B.sorts)], fun dv' _ => dv' = .d (.int i), rep_nil vh1, .cons (d2.mono ⟨sv, fun i c q => ⟨c, q, rfl⟩⟩) (.cons (.lst upd_same (DqL.strs _)) .nil), ⟨dv, B.sorts, rfl, rfl, hz, .inr ⟨i, hb, rfl⟩⟩, fun v H' S' V' dv' r' e' d' hq hl' => ?_⟩
        subst hq
        cases d'
        have s2 : Same (upd H l (.lst (B.sorts.map L2.V.str))) H' := fun b o e => r'.keep b o (by simp [Fr.F0, Fr.here]) e
        refine ⟨.int i, rfl, _, rfl, ?_⟩
        refine HN.iteE rfl ?_
        exact ⟨_, rfl, HN.mkO_read fun d hd => (k.same (s1.trans s2)).mk d hd⟩
theorem okPStandingOfX {f fPCheckRow C CE : Addr} {fd fdPCheckRow : FuncData} (D : Def K mg "standing_of" sPStandingOf ["book", "row"] f fd) (DPCheckRow : Def K mg "check_row" sPCheckRow ["book", "thing"] fPCheckRow fdPCheckRow)
    (GPCheckRowX : FnOk P w K mg base (L2.CX P w) 4 fPCheckRow fdPCheckRow ["book", "thing"] (spRowX K C CE)) : FnOk P w K mg base (L2.CX P w) 5 f fd ["book", "row"] (spRowX K C CE) := by
  refine D.F.okX scPStandingOf (fun vs H Q E h => ?_) (fun cdv A outer s H vs Q E hr h => ?_)
  · obtain ⟨V, B, dv, i, _, d, _⟩ := h
    exact dvs_len d
  · obtain ⟨V, B, dv, i, vh, d, hz, hb, k⟩ := h
    refine ⟨_, pss_cons (ps_expr (pe_call GPCheckRowX hr (by rfl) DPCheckRow.m DPCheckRow.F.kp DPCheckRow.b .nil (passes_call (takes_of rfl rfl rfl rfl) fun _ _ _ _ z => z) (pa_cons (pv 0) (pa_cons (pv 1) pa_nil)))) (pss_cons ps_never (pss_one ps_never)), ?_⟩
    obtain ⟨u1, u2, rfl⟩ : ∃ u1 u2, vs = [u1, u2] := by
      cases d with
      | cons d1 d2 => cases d2 with
        | cons d2 d3 => cases d3; exact ⟨_, _, rfl⟩
    exact ⟨_, rfl, _, rfl, V, B, dv, i, vh, d, hz, hb, k⟩
abbrev nmTried : List Str := ["_law_work", "_law_found", "e"]
theorem scTried : FnScope nmTried ["_law_work"] (defScope sLTried) := ⟨rfl, rfl, rfl, by decide +kernel, rfl, by decide +kernel, by decide +kernel⟩
theorem tried1 {X : Cx} {q : Str} {g CE fE : Addr} {fdE : FuncData} {cdg : Value} (xx : PySem.W.exmOne X.K (.ref CE) (.ref CE) = some true) (RE : HN.ErrC X.prog X.K X.mg "BadLetter" "BadLetter.__init__" "index" "index" CE fE fdE) :
    LamX.GivesTo X nmTried "_law_tried" (defScope sLTried) g cdg (defBody sLTried) "_law_work" q (HN.TT1 CE "index" "letter") := by
  intro f c' s H Q tl act hc h
  generalize hZ : (cxOf C8.CX0 X.prog X.w X.K X.mg X.base nmTried "_law_tried" (defScope sLTried) g cdg X.A X.stack s H C8.E0).nox = Z
  subst hZ
  refine ⟨_, pss_cons (HN.ps_try_manyAs (n := "e") (i := 2) rfl rfl scTried.nd rfl rfl LamX.takes0
      (tb := fun W D σ H => ∃ Ech : L2.XK, (∀ cls d σ' H', Ech cls d H' → σ'.length = 3 → W cls d σ' H') ∧ σ[0]? = some (some (.ref f)) ∧ H c' = some (LamX.CodeO c' q) ∧ tl Ech H fun v H1 => [V.str "told", v].length ≤ sizeLine ∧ ∀ p, H1 p = none → D.nx (σ.set 1 (some (.ref p))) (upd H1 p (.tup [.str "told", v])))
      (fun W pn xe tk _ => ?_)
      (.cons ⟨rfl, by decide, .inl RE.g⟩ (fun a oe cls d pn hz hf => pss_one (ps_set (i := 1) scTried.nd rfl (Or.inl rfl) (pe_tup (pa_cons pe_str (pa_cons (pe_xf RE.xf RE.cl.no hz hf (pv 2)) pa_nil))))) .nil))
    (pss_one (ps_ret (pv 1))), ?_⟩
  · refine ⟨fun pins s' σ H' D I h' => ?_⟩
    obtain ⟨Ech, hW, h1, h2, h3⟩ := h'
    exact (pss_one (ps_set (i := 1) scTried.nd rfl (Or.inl rfl) (pe_tup (pa_cons pe_str (pa_cons (act (fun cls d σ H => σ.length = 3 → W cls d σ H) pn xe Ech _ _ (HN.takes_len tk) hW) pa_nil))))).run pins s' σ H' D I
      ⟨h1, h2, h3⟩
  · refine ⟨_, fun cls d σ' H' he hl => ?_, rfl, hc, h⟩
    obtain ⟨dd, u, rfl, rfl, hd, k⟩ := he
    obtain ⟨s0, s1, s2, rfl⟩ : ∃ s0 s1 s2, σ' = [s0, s1, s2] := by
      match σ', hl with
      | [a, b, c], _ => exact ⟨a, b, c, rfl⟩
    refine ⟨true, xx, fun _ a na => ?_, fun z => nomatch z⟩
    refine ⟨_, rfl, rfl, rfl, dd, _, u, rfl, hd, rfl, by show 2 ≤ sizeLine; decide, fun p hp => ?_⟩
    exact ⟨_, rfl, k p _ (HN.sameN hp) upd_same⟩
end
end PW
namespace PW
open PySem PySem.Spec PyProof.Rows L2

abbrev lamQ : Str := ("law" : Str) ++ ".<locals>." ++ "<lambda>"
/-- the arguments of the call within the lambda: a book, a thing that is no row -/
def prRow (K : PySem.W.Frag) (C : Addr) (ib ia : Nat) : PEnv → List Ob → PyData → Prop := fun Γ _ y => ∃ (B : HN.Bk) (dv : DV) (i : Int), Γ[ib]? = some (some (.x (bookψ C B))) ∧ Γ[ia]? = some (some dv) ∧ (∀ z ∈ B.sorts, (PyData.str z).canLay0 = true) ∧ BadAt K B.sorts dv i ∧ y = .int i
def tRow (K : PySem.W.Frag) (C CE : Addr) (ib ia : Nat) : XK → TE := fun E σ H Q => ∃ v, σ[ib]? = some (some v) ∧ ∃ u, σ[ia]? = some (some u) ∧ spRowX K C CE [v, u] H Q E
theorem ew_triedRow {X : Cx} {R : Fr} {K : PySem.W.Frag} {C CE fE g c Pt : Addr} {fdE : FuncData} {ib ia k : Nat} {pg : Arguments} {dV kV doc pm cdv ct oc : Value} {an od : Option Addr} {osl : Array (Option Value)} {params : Arguments} {body : Expr} {scope : Scope} {p lpos pos : Pos}
    (hK : X.K = K) (hq : lamQ = X.env.qual ++ "<lambda>") (hg : Gl X "_law_tried") (hm : X.mg "_law_tried" = some (.ref g)) (hk : PySem.W.keepIn X.K (.ref g) = true)
    (lk : X.K.lookup g = some ⟨oc, od, .func (PySem.W.fnOf "_law_tried" "_law_tried" pg (defBody sLTried) (defScope sLTried) dV kV doc pm an cdv ct), osl⟩) (hcg : PySem.W.codeIn X.K cdv "_law_tried" = true) (hb : L2.Binds X.K (PySem.W.fnOf "_law_tried" "_law_tried" pg (defBody sLTried) (defScope sLTried) dV kV doc pm an cdv ct) ["_law_work"] [])
    (xx : PySem.W.exmOne X.K (.ref CE) (.ref CE) = some true) (RE : HN.ErrC X.prog X.K X.mg "BadLetter" "BadLetter.__init__" "index" "index" CE fE fdE)
    (TB : LamX.TabB X.base X.mg c Pt) (hcode : X.env.code = .ref c) (hr : Room (k + 2) X.A) (L : LamX.LamS X.env.scope scope) (hdef : defaultsOf params X.env = ([], []))
    (hbind : ∀ (q : Str) (cl : List (Str × Addr)) (pm cv ctv : Value), bindArgs (PySem.W.kla_fn "<lambda>" q params body scope cl pm cv ctv) ⟨[], []⟩ = pure [])
    (hbody : ∀ (A : Around) (outer : List Env) (s : Shared) (H : Hp) (E : XK) (f c' : Addr), Room k (A.deeper (LamX.lamEnv X scope s.heap.objs.size f c')) → PE (LamX.lamCx X A outer s H E scope f c') body (tRow X.K C CE ib ia E)) :
    EW X R (.Call (.Name "_law_tried" p) [.Lambda params body scope lpos] [] pos) (qTried Pt lamQ "letter" (prRow K C ib ia)) := by
  subst hK
  refine ew_tried (pe_lamX (q := lamQ) hq hg hm hk lk hcg hb scTried rfl (Or.inl rfl) (tried1 xx RE) TB hcode hr L hdef hbind hbody) fun S V H σ Γ y Q r sl hy kq => ?_
  obtain ⟨B, dv, i, h1, h2, hz, hbad, rfl⟩ := hy
  obtain ⟨v, e1, d1⟩ := sl.at_ _ _ h1
  obtain ⟨u, e2, d2⟩ := sl.at_ _ _ h2
  refine ⟨v, e1, u, e2, V, B, dv, i, r.vh, .cons (DVat.any (fun i z => nomatch z) d1) (.cons (DVat.any (noO_ne (bad_noO hbad)) d2) .nil), hz, hbad, fun d H' s e => ?_⟩
  exact ⟨d, .int i, rfl, rfl, e, fun p H2 s2 hp => kq p H2 (.int i) (s.trans s2) (.int i) hp⟩
theorem behind_len {s s' : Std} {spot sort : Str} {e : HN.Eff} (b : Behind s spot sort e s') : s'.come.length ≤ s.come.length + 1 := by
  by_cases t : spot = "top"
  · rw [b.top t]; show 1 ≤ _; omega
  · by_cases n : spot = "newest"
    · by_cases m : sort ∈ s.come
      · rw [b.old n m]; omega
      · rw [(b.new n m).1.length_eq, List.length_append]; exact Nat.le_refl _
    · rw [b.other t n]; omega
theorem goes_come {ef : HN.K3 → HN.Eff} : ∀ {as : List (Str × Int)} {s : Std} {nw hd : Option Int} {ms : List Mv}, Goes ef s nw hd as ms → (lastS s ms).come.length ≤ s.come.length + as.length
  | [], s, nw, hd, ms, h => by
    have h : ms = [] := h
    subst h
    exact Nat.le_refl _
  | a :: as, s, nw, hd, ms, h => by
    obtain ⟨s', rest, hb, rfl, hr⟩ := h
    have ih := goes_come hr
    have hl := behind_len hb
    cases rest with
    | nil =>
      show s'.come.length ≤ _
      have : (lastS s' ([] : List Mv)).come.length = s'.come.length := rfl
      rw [List.length_cons]
      omega
    | cons m ms =>
      have e : lastS s ((s, spotOf a.2 nw hd, a.1, ef (s.st, a.1, ageAt a.2 hd), s') :: m :: ms) = lastS s' (m :: ms) := lastS_cons m ms
      rw [e, List.length_cons]
      omega
theorem flat_depL (ws : List Str) : depL (ws.map PyData.str) = 0 ∧ wdL (ws.map PyData.str) = 0 := by
  induction ws with
  | nil => exact ⟨rfl, rfl⟩
  | cons w ws ih => simp only [List.map_cons, depL, wdL, dep, wd, ih.1, ih.2]; exact ⟨rfl, rfl⟩
theorem std_dep (s : Std) : dep (stdD s) ≤ 2 := by
  simp only [stdD, dep, depL, (flat_depL s.come).1]; omega
theorem std_wd (s : Std) (h : s.come.length ≤ 100) : wd (stdD s) ≤ 100 := by
  simp only [stdD, wd, wdL, (flat_depL s.come).2, List.length_map]; simp; omega
theorem strs_plain : ∀ ws : List Str, plainL (ws.map PyData.str) = true
  | [] => rfl
  | w :: ws => by
    show (plain (.str w) && plainL (ws.map PyData.str)) = true
    rw [strs_plain ws]; rfl
theorem std_plain (s : Std) : plain (stdD s) = true := by
  show (plain (.str s.st) && (plain (.str s.place) && (plain (.tuple (s.come.map PyData.str)) && (plain (.bool s.rung) && true)))) = true
  have : plain (.tuple (s.come.map PyData.str)) = true := strs_plain s.come
  rw [this]; rfl
theorem paired_app {α β : Type} {R : α → β → Prop} {xs : List α} {ys : List β} {x : α} {y : β} (h : Paired R xs ys) (q : R x y) : Paired R (xs ++ [x]) (ys ++ [y]) := by
  induction h with
  | nil => exact .cons q .nil
  | cons a _ ih => exact .cons a ih
theorem paired_take {α β : Type} {R : α → β → Prop} : ∀ {xs : List α} {ys : List β} (n : Nat), Paired R xs ys → Paired R (xs.take n) (ys.take n)
  | _, _, 0, _ => .nil
  | _, _, _ + 1, .nil => .nil
  | _, _, n + 1, .cons h t => .cons h (paired_take n t)
structure Turn (B : HN.Bk) (as : List (Str × Int)) : Prop where
  gM : HN.GoodBkM B
  so : ∀ a ∈ as, a.1 ∈ B.sorts
  len : as.length ≤ 42
theorem Turn.gB {B : HN.Bk} {as : List (Str × Int)} (t : Turn B as) : HN.GoodBk B := t.gM.good
theorem sm_let (i : Int) : sm (.tuple [.str "letter", .int i]) (.tuple [.str "letter", .int i]) = true := sm_refl rfl
theorem law_m {K : PySem.W.Frag} {C Pt : Addr} {PD : PEnds} {B : HN.Bk} {as : List (Str × Int)} {ψ0 : Hp → L2.V → Prop} {d1 : PyData} {v6 v7 v8 v9 v10 v11 v12 v13 v14 : Option DV} (t : Turn B as) (k : ∀ v6 v7 v8 v9 v10 v11 v12 v13 v14 : Option DV, PD.nx [some (.x ψ0), some (.d d1), some (.o 1), some (.x (planψ K B)), some (.x (bookψ C (HN.toldB B))), some (.d (.list (as.map letP))), v6, v7, v8, v9, v10, v11, v12, v13, v14] [tblO Pt lamQ, .dr]) : ((qSeq (qSet 14 (qCall (pspPickX K) (qCons (qVar 2) (qCons (qLstX K (qCons (qC PyData.none) (qCons (qC (PyData.int 5)) (qCons (qC (PyData.str "ab")) (qCons (qDict0 K) qNil))))) qNil)))) (qIfS (qNotT (qTru (qCall (pspSame 5) (qCons (qTried Pt lamQ "letter" (prRow K C 4 14)) (qCons (qTup (qCons (qC (PyData.str "letter")) (qCons (qC (PyData.int 0)) qNil))) qNil))))) (qRet (qC (PyData.bool false))) qNext))) PD [some (.x ψ0), some (.d d1), some (.o 1), some (.x (planψ K B)), some (.x (bookψ C (HN.toldB B))), some (.d (.list (as.map letP))), v6, v7, v8, v9, v10, v11, v12, v13, v14] [tblO Pt lamQ, .dr] := by
  have gB := t.gB
  refine ⟨rfl, rfl, ?_⟩
  refine ⟨rfl, [.d .none, .d (.int 5), .d (.str "ab"), .x (dKψ K [])], rfl, rfl, (by show 0 < 4; decide), (by show 4 ≤ 1000; decide), fun z hz => ?_, fun z hz => ?_⟩
  · have : z = .d .none ∨ z = .d (.int 5) ∨ z = .d (.str "ab") ∨ z = .x (dKψ K []) := by
      simp only [List.mem_cons, List.not_mem_nil, or_false] at hz
      exact hz
    rcases this with rfl | rfl | rfl | rfl <;> rfl
  · have hb : BadAt K B.sorts z 0 := by
      have : z = .d .none ∨ z = .d (.int 5) ∨ z = .d (.str "ab") ∨ z = .x (dKψ K []) := by
        simp only [List.mem_cons, List.not_mem_nil, or_false] at hz
        exact hz
      rcases this with rfl | rfl | rfl | rfl
      · exact .other rfl
      · exact .other rfl
      · exact .other rfl
      · exact .dict
    have noz := bad_noO hb
    cases z with
    | o i => cases noz
    | d z =>
      refine ⟨⟨0, rfl⟩, .int 0, ⟨HN.toldB B, _, 0, rfl, rfl, words_lay (HN.good_told gB), hb, rfl⟩, ?_⟩
      refine ⟨rfl, _, _, rfl, rfl, (by show 1 < 5; decide), (by show 2 ≤ 100000; decide), ?_⟩
      rw [sm_let]
      exact k _ _ _ _ _ _ _ _ _
    | x z =>
      refine ⟨⟨0, rfl⟩, .int 0, ⟨HN.toldB B, _, 0, rfl, rfl, words_lay (HN.good_told gB), hb, rfl⟩, ?_⟩
      refine ⟨rfl, _, _, rfl, rfl, (by show 1 < 5; decide), (by show 2 ≤ 100000; decide), ?_⟩
      rw [sm_let]
      exact k _ _ _ _ _ _ _ _ _
theorem law_l {K : PySem.W.Frag} {C Pt : Addr} {PD : PEnds} {B : HN.Bk} {as : List (Str × Int)} {ψ0 : Hp → L2.V → Prop} {d1 : PyData} {v6 v7 v8 v9 v10 v11 v12 v13 v14 : Option DV} (t : Turn B as) {hd od : PyData} {ys : List PyData} (hh : SeqD hd ys) (hp : Paired (IsLt B.sorts) ys as) (ho : IsOdd B.sorts od) (k : ∀ v6 v7 v8 v9 v10 v11 v12 v13 v14 : Option DV, PD.nx [some (.x ψ0), some (.d d1), some (.o 1), some (.x (planψ K B)), some (.x (bookψ C (HN.toldB B))), some (.d (.list (as.map letP))), v6, v7, v8, v9, v10, v11, v12, v13, v14] [tblO Pt lamQ, .dr]) : ((qSeq (qSet 12 (qCall pspDraw (qCons (qVar 2) (qCons (qBin opAdd (qBlt oLen (qCons (qVar 5) qNil)) (qC (PyData.int 1))) qNil)))) (qSeq (qSet 13 (qBin opAdd (qBin opAdd (qBlt oList (qCons (qSl (qVar 6) qNoPart (qPart (qVar 12))) qNil)) (qLst (qCons (qVar 11) (qCons (qC PyData.none) qNil)))) (qBlt oList (qCons (qSl (qVar 6) (qPart (qVar 12)) qNoPart) qNil)))) (qSeq (qIfS (qNotT (qTru (qCall (pspSame 5) (qCons (qTried Pt lamQ "letter" (prRow K C 4 13)) (qCons (qTup (qCons (qC (PyData.str "letter")) (qCons (qVar 12) qNil))) qNil))))) (qRet (qC (PyData.bool false))) qNext) (qSeq (qSet 14 (qCall (pspPickX K) (qCons (qVar 2) (qCons (qLstX K (qCons (qC PyData.none) (qCons (qC (PyData.int 5)) (qCons (qC (PyData.str "ab")) (qCons (qDict0 K) qNil))))) qNil)))) (qIfS (qNotT (qTru (qCall (pspSame 5) (qCons (qTried Pt lamQ "letter" (prRow K C 4 14)) (qCons (qTup (qCons (qC (PyData.str "letter")) (qCons (qC (PyData.int 0)) qNil))) qNil))))) (qRet (qC (PyData.bool false))) qNext)))))) PD [some (.x ψ0), some (.d d1), some (.o 1), some (.x (planψ K B)), some (.x (bookψ C (HN.toldB B))), some (.d (.list (as.map letP))), some (.d hd), v7, v8, v9, v10, some (.d od), v12, v13, v14] [tblO Pt lamQ, .dr] := by
  have gB := t.gB
  have hl := t.len
  have hyl : ys.length = as.length := Paired.length hp
  refine ⟨rfl, _, rfl, rfl, (by show (0 : Int) < ((as.map letP).length : Int) + 1; omega), (by rw [List.length_map]; show (as.length : Int) + 1 ≤ _; omega), fun r r0 r1 => ?_⟩
  rw [List.length_map] at r1
  obtain ⟨j, rfl⟩ : ∃ j : Nat, r = (j : Int) := ⟨r.toNat, (Int.toNat_of_nonneg r0).symm⟩
  have hj : j ≤ ys.length := by omega
  have c1 : cutP ys none (some (j : Int)) = ys.take j := cut_take ys j
  have c2 : cutP ys (some (j : Int)) none = ys.drop j := cut_drop ys j
  have e : (cutP ys none (some (j : Int)) ++ [od, .none]) ++ cutP ys (some (j : Int)) none = ys.take j ++ od :: (.none :: ys.drop j) := by
    rw [c1, c2]
    simp
  have hb : BadAt K B.sorts (.d (.list ((cutP ys none (some (j : Int)) ++ [od, .none]) ++ cutP ys (some (j : Int)) none))) (j : Int) := by
    rw [e]
    exact .at_ (.inl rfl) (paired_take j hp) ho (by rw [List.length_take, Nat.min_eq_left hj])
  have l1 : (cutP ys none (some (j : Int))).length + 2 ≤ 100000 := by rw [c1, List.length_take]; omega
  have l2 : (cutP ys none (some (j : Int)) ++ [od, .none]).length + (cutP ys (some (j : Int)) none).length ≤ 100000 := by
    rw [List.length_append, c1, c2, List.length_take, List.length_drop]
    show min j ys.length + 2 + (ys.length - j) ≤ 100000
    omega
  rcases hh with rfl | rfl
  all_goals
    refine ⟨l1, l2, ?_⟩
    refine ⟨⟨0, rfl⟩, .int (j : Int), ⟨HN.toldB B, _, (j : Int), rfl, rfl, words_lay (HN.good_told gB), hb, rfl⟩, ?_⟩
    refine ⟨rfl, _, _, rfl, rfl, (by show 1 < 5; decide), (by show 2 ≤ 100000; decide), ?_⟩
    rw [sm_let]
    exact law_m t k
theorem law_k2 {K : PySem.W.Frag} {C Pt : Addr} {PD : PEnds} {B : HN.Bk} {as : List (Str × Int)} {ψ0 : Hp → L2.V → Prop} {d1 : PyData} {v6 v7 v8 v9 v10 v11 v12 v13 v14 : Option DV} (t : Turn B as) {hd : PyData} {ys : List PyData} (hh : SeqD hd ys) (hp : Paired (IsLt B.sorts) ys as) (k : ∀ v6 v7 v8 v9 v10 v11 v12 v13 v14 : Option DV, PD.nx [some (.x ψ0), some (.d d1), some (.o 1), some (.x (planψ K B)), some (.x (bookψ C (HN.toldB B))), some (.d (.list (as.map letP))), v6, v7, v8, v9, v10, v11, v12, v13, v14] [tblO Pt lamQ, .dr]) : ((qSeq (qSet 9 (qBin opIx (qIxP K 1 (qVar 3)) (qC (PyData.int 0)))) (qSeq (qSet 10 (qLst (qCons (qC PyData.none) (qCons (qC (PyData.int 5)) (qCons (qVar 9) (qCons (qTup (qCons (qVar 9) qNil)) (qCons (qTup (qCons (qVar 9) (qCons (qC (PyData.int 1)) (qCons (qC (PyData.int 2)) qNil)))) (qCons (qTup (qCons (qC (PyData.str "zz")) (qCons (qC (PyData.int 1)) qNil))) (qCons (qTup (qCons (qVar 9) (qCons (qC (PyData.bool true)) qNil))) (qCons (qTup (qCons (qVar 9) (qCons (qC (PyData.str "1")) qNil))) (qCons (qTup (qCons (qC (PyData.int 1)) (qCons (qVar 9) qNil))) (qCons (qTup qNil) (qCons (qTup (qCons (qLst qNil) (qCons (qC (PyData.int 1)) qNil))) qNil))))))))))))) (qSeq (qSet 11 (qCall pspPick (qCons (qVar 2) (qCons (qVar 10) qNil)))) (qSeq (qSet 12 (qCall pspDraw (qCons (qVar 2) (qCons (qBin opAdd (qBlt oLen (qCons (qVar 5) qNil)) (qC (PyData.int 1))) qNil)))) (qSeq (qSet 13 (qBin opAdd (qBin opAdd (qBlt oList (qCons (qSl (qVar 6) qNoPart (qPart (qVar 12))) qNil)) (qLst (qCons (qVar 11) (qCons (qC PyData.none) qNil)))) (qBlt oList (qCons (qSl (qVar 6) (qPart (qVar 12)) qNoPart) qNil)))) (qSeq (qIfS (qNotT (qTru (qCall (pspSame 5) (qCons (qTried Pt lamQ "letter" (prRow K C 4 13)) (qCons (qTup (qCons (qC (PyData.str "letter")) (qCons (qVar 12) qNil))) qNil))))) (qRet (qC (PyData.bool false))) qNext) (qSeq (qSet 14 (qCall (pspPickX K) (qCons (qVar 2) (qCons (qLstX K (qCons (qC PyData.none) (qCons (qC (PyData.int 5)) (qCons (qC (PyData.str "ab")) (qCons (qDict0 K) qNil))))) qNil)))) (qIfS (qNotT (qTru (qCall (pspSame 5) (qCons (qTried Pt lamQ "letter" (prRow K C 4 14)) (qCons (qTup (qCons (qC (PyData.str "letter")) (qCons (qC (PyData.int 0)) qNil))) qNil))))) (qRet (qC (PyData.bool false))) qNext))))))))) PD [some (.x ψ0), some (.d d1), some (.o 1), some (.x (planψ K B)), some (.x (bookψ C (HN.toldB B))), some (.d (.list (as.map letP))), some (.d hd), v7, v8, v9, v10, v11, v12, v13, v14] [tblO Pt lamQ, .dr] := by
  have gB := t.gB
  obtain ⟨z0, zs, hB⟩ := List.exists_cons_of_ne_nil (sorts_ne gB)
  have hz0 : z0 ∈ B.sorts := by rw [hB]; exact List.mem_cons_self
  have e0 : atI (B.sorts.map PyData.str) 0 = some (.str z0) := by rw [hB]; exact atI_nat (j := 0) rfl
  refine ⟨_, rfl, ?_⟩
  show (match atI (B.sorts.map PyData.str) 0 with | some e => _ | none => False)
  rw [e0]
  refine ⟨rfl, _, rfl, rfl, by simp, by simp, fun d hd' => ?_⟩
  refine law_l (v6 := none) (v11 := none) t hh hp ?_ k
  have : d = .none ∨ d = .int 5 ∨ d = .str z0 ∨ d = .tuple [.str z0] ∨ d = .tuple [.str z0, .int 1, .int 2] ∨ d = .tuple [.str "zz", .int 1] ∨ d = .tuple [.str z0, .bool true] ∨ d = .tuple [.str z0, .str "1"] ∨ d = .tuple [.int 1, .str z0] ∨ d = .tuple [] ∨ d = .tuple [.list [], .int 1] := by
    simp only [List.mem_cons, List.not_mem_nil, or_false] at hd'
    exact hd'
  rcases this with rfl | rfl | rfl | rfl | rfl | rfl | rfl | rfl | rfl | rfl | rfl
  · exact .none
  · exact .int _
  · exact .str _
  · exact .one _
  · exact .three _ _ _
  · exact .far _ _ (far_str t.gM.2.1.no.1) (shaped_str (by decide +kernel))
  · exact .tru _ _ hz0 rfl
  · exact .tru _ _ hz0 rfl
  · exact .far _ _ (fun u _ => rfl) (by decide +kernel)
  · exact .nil
  · exact .far _ _ (fun u _ => rfl) (by decide +kernel)
theorem law_k {K : PySem.W.Frag} {C Pt : Addr} {PD : PEnds} {B : HN.Bk} {as : List (Str × Int)} {ψ0 : Hp → L2.V → Prop} {d1 : PyData} {v6 v7 v8 v9 v10 v11 v12 v13 v14 : Option DV} (t : Turn B as) {hd : PyData} {ys : List PyData} (hh : SeqD hd ys) (hp : Paired (IsLt B.sorts) ys as) (k : ∀ v6 v7 v8 v9 v10 v11 v12 v13 v14 : Option DV, PD.nx [some (.x ψ0), some (.d d1), some (.o 1), some (.x (planψ K B)), some (.x (bookψ C (HN.toldB B))), some (.d (.list (as.map letP))), v6, v7, v8, v9, v10, v11, v12, v13, v14] [tblO Pt lamQ, .dr]) : ((qSeq (qForW (qiRange1 (qCons (qC (PyData.int 2)) qNil)) (qgName 8) (qIfS (qOrT (qNotT (qTru (qCall (pspSame 5) (qCons (qCall (pspStandingOf C) (qCons (qVar 4) (qCons (qVar 6) qNil))) (qCons (qCall (pspLStd K) (qCons (qVar 3) (qCons (qVar 5) qNil))) qNil))))) (qB (qBin opNe (qBlt oLen (qCons (qVar 6) qNil)) (qBlt oLen (qCons (qVar 5) qNil))))) (qRet (qC (PyData.bool false))) qNext)) (qSeq (qSet 9 (qBin opIx (qIxP K 1 (qVar 3)) (qC (PyData.int 0)))) (qSeq (qSet 10 (qLst (qCons (qC PyData.none) (qCons (qC (PyData.int 5)) (qCons (qVar 9) (qCons (qTup (qCons (qVar 9) qNil)) (qCons (qTup (qCons (qVar 9) (qCons (qC (PyData.int 1)) (qCons (qC (PyData.int 2)) qNil)))) (qCons (qTup (qCons (qC (PyData.str "zz")) (qCons (qC (PyData.int 1)) qNil))) (qCons (qTup (qCons (qVar 9) (qCons (qC (PyData.bool true)) qNil))) (qCons (qTup (qCons (qVar 9) (qCons (qC (PyData.str "1")) qNil))) (qCons (qTup (qCons (qC (PyData.int 1)) (qCons (qVar 9) qNil))) (qCons (qTup qNil) (qCons (qTup (qCons (qLst qNil) (qCons (qC (PyData.int 1)) qNil))) qNil))))))))))))) (qSeq (qSet 11 (qCall pspPick (qCons (qVar 2) (qCons (qVar 10) qNil)))) (qSeq (qSet 12 (qCall pspDraw (qCons (qVar 2) (qCons (qBin opAdd (qBlt oLen (qCons (qVar 5) qNil)) (qC (PyData.int 1))) qNil)))) (qSeq (qSet 13 (qBin opAdd (qBin opAdd (qBlt oList (qCons (qSl (qVar 6) qNoPart (qPart (qVar 12))) qNil)) (qLst (qCons (qVar 11) (qCons (qC PyData.none) qNil)))) (qBlt oList (qCons (qSl (qVar 6) (qPart (qVar 12)) qNoPart) qNil)))) (qSeq (qIfS (qNotT (qTru (qCall (pspSame 5) (qCons (qTried Pt lamQ "letter" (prRow K C 4 13)) (qCons (qTup (qCons (qC (PyData.str "letter")) (qCons (qVar 12) qNil))) qNil))))) (qRet (qC (PyData.bool false))) qNext) (qSeq (qSet 14 (qCall (pspPickX K) (qCons (qVar 2) (qCons (qLstX K (qCons (qC PyData.none) (qCons (qC (PyData.int 5)) (qCons (qC (PyData.str "ab")) (qCons (qDict0 K) qNil))))) qNil)))) (qIfS (qNotT (qTru (qCall (pspSame 5) (qCons (qTried Pt lamQ "letter" (prRow K C 4 14)) (qCons (qTup (qCons (qC (PyData.str "letter")) (qCons (qC (PyData.int 0)) qNil))) qNil))))) (qRet (qC (PyData.bool false))) qNext)))))))))) PD [some (.x ψ0), some (.d d1), some (.o 1), some (.x (planψ K B)), some (.x (bookψ C (HN.toldB B))), some (.d (.list (as.map letP))), some (.d hd), v7, v8, v9, v10, v11, v12, v13, v14] [tblO Pt lamQ, .dr] := by
  have gB := t.gB
  have gT := HN.good_told gB
  have hl := t.len
  have hyl : ys.length = as.length := Paired.length hp
  refine ⟨⟨by decide, by decide⟩, ?_⟩
  refine loopW_ind (fun ts Γ O => (∃ v7 v8 v9 v10 v11 v12 v13 v14, Γ = [some (.x ψ0), some (.d d1), some (.o 1), some (.x (planψ K B)), some (.x (bookψ C (HN.toldB B))), some (.d (.list (as.map letP))), some (.d hd), v7, v8, v9, v10, v11, v12, v13, v14]) ∧ O = [tblO Pt lamQ, .dr])
    (fun Γ O j => ?_) (fun d ts Γ O j ih => ?_) _ _ _ ⟨⟨v7, v8, v9, v10, v11, v12, v13, v14, rfl⟩, rfl⟩
  · obtain ⟨⟨v7, v8, v9, v10, v11, v12, v13, v14, rfl⟩, rfl⟩ := j
    exact ⟨trivial, law_k2 (v6 := none) t hh hp k⟩
  · obtain ⟨⟨v7, v8, v9, v10, v11, v12, v13, v14, rfl⟩, rfl⟩ := j
    refine ⟨trivial, ?_⟩
    refine ⟨rfl, HN.toldB B, hd, ys, as, rfl, rfl, hh, words_lay gT, gT, hp, by omega, fun s hs => ?_⟩
    obtain ⟨ms, hms, rfl⟩ := hs
    refine ⟨rfl, B, as, rfl, rfl, t.so, by omega, fun ms2 hms2 => ?_⟩
    have e := goes_uniq hms2 (told_goes gB hms)
    subst e
    have hc : (lastS (firstStd B) ms2).come.length ≤ 100 := by
      have := goes_come hms2
      have h0 : (firstStd B).come.length = 0 := rfl
      omega
    have hd1 := std_dep (lastS (firstStd B) ms2)
    have hd2 := std_wd _ hc
    refine ⟨rfl, _, _, rfl, rfl, by omega, by omega, ?_⟩
    rw [show sm (stdD (lastS (firstStd (HN.toldB B)) ms2)) (stdD (lastS (firstStd B) ms2)) = true from sm_refl (std_plain _)]
    have fin : ((ys.length : Int) == ((as.map letP).length : Int)) = true := by rw [List.length_map, hyl]; exact beq_self_eq_true _
    rcases hh with rfl | rfl
    all_goals
      show (match (!((ys.length : Int) == ((as.map letP).length : Int))) with | true => _ | false => _)
      rw [fin]
      exact ih _ _ ⟨⟨_, _, _, _, _, _, _, _, rfl⟩, rfl⟩
theorem law_j {K : PySem.W.Frag} {C Pt : Addr} {PD : PEnds} {B : HN.Bk} {as : List (Str × Int)} {ψ0 : Hp → L2.V → Prop} {d1 : PyData} {v6 v7 v8 v9 v10 v11 v12 v13 v14 : Option DV} (t : Turn B as) {ys : List PyData} (hp : Paired (IsLt B.sorts) ys as) (k : ∀ v6 v7 v8 v9 v10 v11 v12 v13 v14 : Option DV, PD.nx [some (.x ψ0), some (.d d1), some (.o 1), some (.x (planψ K B)), some (.x (bookψ C (HN.toldB B))), some (.d (.list (as.map letP))), v6, v7, v8, v9, v10, v11, v12, v13, v14] [tblO Pt lamQ, .dr]) : ((qSeq (qSet 6 (qIf (qB (qBin opEq (qCall pspDraw (qCons (qVar 2) (qCons (qC (PyData.int 3)) qNil))) (qC (PyData.int 0)))) (qBlt oTuple (qCons (qVar 6) qNil)) (qVar 6))) (qSeq (qForW (qiRange1 (qCons (qC (PyData.int 2)) qNil)) (qgName 8) (qIfS (qOrT (qNotT (qTru (qCall (pspSame 5) (qCons (qCall (pspStandingOf C) (qCons (qVar 4) (qCons (qVar 6) qNil))) (qCons (qCall (pspLStd K) (qCons (qVar 3) (qCons (qVar 5) qNil))) qNil))))) (qB (qBin opNe (qBlt oLen (qCons (qVar 6) qNil)) (qBlt oLen (qCons (qVar 5) qNil))))) (qRet (qC (PyData.bool false))) qNext)) (qSeq (qSet 9 (qBin opIx (qIxP K 1 (qVar 3)) (qC (PyData.int 0)))) (qSeq (qSet 10 (qLst (qCons (qC PyData.none) (qCons (qC (PyData.int 5)) (qCons (qVar 9) (qCons (qTup (qCons (qVar 9) qNil)) (qCons (qTup (qCons (qVar 9) (qCons (qC (PyData.int 1)) (qCons (qC (PyData.int 2)) qNil)))) (qCons (qTup (qCons (qC (PyData.str "zz")) (qCons (qC (PyData.int 1)) qNil))) (qCons (qTup (qCons (qVar 9) (qCons (qC (PyData.bool true)) qNil))) (qCons (qTup (qCons (qVar 9) (qCons (qC (PyData.str "1")) qNil))) (qCons (qTup (qCons (qC (PyData.int 1)) (qCons (qVar 9) qNil))) (qCons (qTup qNil) (qCons (qTup (qCons (qLst qNil) (qCons (qC (PyData.int 1)) qNil))) qNil))))))))))))) (qSeq (qSet 11 (qCall pspPick (qCons (qVar 2) (qCons (qVar 10) qNil)))) (qSeq (qSet 12 (qCall pspDraw (qCons (qVar 2) (qCons (qBin opAdd (qBlt oLen (qCons (qVar 5) qNil)) (qC (PyData.int 1))) qNil)))) (qSeq (qSet 13 (qBin opAdd (qBin opAdd (qBlt oList (qCons (qSl (qVar 6) qNoPart (qPart (qVar 12))) qNil)) (qLst (qCons (qVar 11) (qCons (qC PyData.none) qNil)))) (qBlt oList (qCons (qSl (qVar 6) (qPart (qVar 12)) qNoPart) qNil)))) (qSeq (qIfS (qNotT (qTru (qCall (pspSame 5) (qCons (qTried Pt lamQ "letter" (prRow K C 4 13)) (qCons (qTup (qCons (qC (PyData.str "letter")) (qCons (qVar 12) qNil))) qNil))))) (qRet (qC (PyData.bool false))) qNext) (qSeq (qSet 14 (qCall (pspPickX K) (qCons (qVar 2) (qCons (qLstX K (qCons (qC PyData.none) (qCons (qC (PyData.int 5)) (qCons (qC (PyData.str "ab")) (qCons (qDict0 K) qNil))))) qNil)))) (qIfS (qNotT (qTru (qCall (pspSame 5) (qCons (qTried Pt lamQ "letter" (prRow K C 4 14)) (qCons (qTup (qCons (qC (PyData.str "letter")) (qCons (qC (PyData.int 0)) qNil))) qNil))))) (qRet (qC (PyData.bool false))) qNext))))))))))) PD [some (.x ψ0), some (.d d1), some (.o 1), some (.x (planψ K B)), some (.x (bookψ C (HN.toldB B))), some (.d (.list (as.map letP))), some (.d (.list ys)), v7, v8, v9, v10, v11, v12, v13, v14] [tblO Pt lamQ, .dr] := by
  refine ⟨rfl, 3, rfl, rfl, by decide, by decide, fun r r0 r1 => ?_⟩
  show (match (r == 0) with | true => _ | false => _)
  cases hr : (r == 0) with
  | false => exact law_k (v6 := none) t (.inl rfl) hp k
  | true => exact law_k (v6 := none) t (.inr rfl) hp k
theorem law_i {K : PySem.W.Frag} {C Pt : Addr} {PD : PEnds} {B : HN.Bk} {as : List (Str × Int)} {ψ0 : Hp → L2.V → Prop} {d1 : PyData} {v6 v7 v8 v9 v10 v11 v12 v13 v14 : Option DV} (t : Turn B as) (k : ∀ v6 v7 v8 v9 v10 v11 v12 v13 v14 : Option DV, PD.nx [some (.x ψ0), some (.d d1), some (.o 1), some (.x (planψ K B)), some (.x (bookψ C (HN.toldB B))), some (.d (.list (as.map letP))), v6, v7, v8, v9, v10, v11, v12, v13, v14] [tblO Pt lamQ, .dr]) : ((qSeq (qSet 6 (qLc [7] (qiSeq (qVar 5)) (qgName 7) qYes (qIf (qB (qBin opEq (qCall pspDraw (qCons (qVar 2) (qCons (qC (PyData.int 4)) qNil))) (qC (PyData.int 0)))) (qBlt oList (qCons (qVar 7) qNil)) (qVar 7)))) (qSeq (qSet 6 (qIf (qB (qBin opEq (qCall pspDraw (qCons (qVar 2) (qCons (qC (PyData.int 3)) qNil))) (qC (PyData.int 0)))) (qBlt oTuple (qCons (qVar 6) qNil)) (qVar 6))) (qSeq (qForW (qiRange1 (qCons (qC (PyData.int 2)) qNil)) (qgName 8) (qIfS (qOrT (qNotT (qTru (qCall (pspSame 5) (qCons (qCall (pspStandingOf C) (qCons (qVar 4) (qCons (qVar 6) qNil))) (qCons (qCall (pspLStd K) (qCons (qVar 3) (qCons (qVar 5) qNil))) qNil))))) (qB (qBin opNe (qBlt oLen (qCons (qVar 6) qNil)) (qBlt oLen (qCons (qVar 5) qNil))))) (qRet (qC (PyData.bool false))) qNext)) (qSeq (qSet 9 (qBin opIx (qIxP K 1 (qVar 3)) (qC (PyData.int 0)))) (qSeq (qSet 10 (qLst (qCons (qC PyData.none) (qCons (qC (PyData.int 5)) (qCons (qVar 9) (qCons (qTup (qCons (qVar 9) qNil)) (qCons (qTup (qCons (qVar 9) (qCons (qC (PyData.int 1)) (qCons (qC (PyData.int 2)) qNil)))) (qCons (qTup (qCons (qC (PyData.str "zz")) (qCons (qC (PyData.int 1)) qNil))) (qCons (qTup (qCons (qVar 9) (qCons (qC (PyData.bool true)) qNil))) (qCons (qTup (qCons (qVar 9) (qCons (qC (PyData.str "1")) qNil))) (qCons (qTup (qCons (qC (PyData.int 1)) (qCons (qVar 9) qNil))) (qCons (qTup qNil) (qCons (qTup (qCons (qLst qNil) (qCons (qC (PyData.int 1)) qNil))) qNil))))))))))))) (qSeq (qSet 11 (qCall pspPick (qCons (qVar 2) (qCons (qVar 10) qNil)))) (qSeq (qSet 12 (qCall pspDraw (qCons (qVar 2) (qCons (qBin opAdd (qBlt oLen (qCons (qVar 5) qNil)) (qC (PyData.int 1))) qNil)))) (qSeq (qSet 13 (qBin opAdd (qBin opAdd (qBlt oList (qCons (qSl (qVar 6) qNoPart (qPart (qVar 12))) qNil)) (qLst (qCons (qVar 11) (qCons (qC PyData.none) qNil)))) (qBlt oList (qCons (qSl (qVar 6) (qPart (qVar 12)) qNoPart) qNil)))) (qSeq (qIfS (qNotT (qTru (qCall (pspSame 5) (qCons (qTried Pt lamQ "letter" (prRow K C 4 13)) (qCons (qTup (qCons (qC (PyData.str "letter")) (qCons (qVar 12) qNil))) qNil))))) (qRet (qC (PyData.bool false))) qNext) (qSeq (qSet 14 (qCall (pspPickX K) (qCons (qVar 2) (qCons (qLstX K (qCons (qC PyData.none) (qCons (qC (PyData.int 5)) (qCons (qC (PyData.str "ab")) (qCons (qDict0 K) qNil))))) qNil)))) (qIfS (qNotT (qTru (qCall (pspSame 5) (qCons (qTried Pt lamQ "letter" (prRow K C 4 14)) (qCons (qTup (qCons (qC (PyData.str "letter")) (qCons (qC (PyData.int 0)) qNil))) qNil))))) (qRet (qC (PyData.bool false))) qNext)))))))))))) PD [some (.x ψ0), some (.d d1), some (.o 1), some (.x (planψ K B)), some (.x (bookψ C (HN.toldB B))), some (.d (.list (as.map letP))), v6, v7, v8, v9, v10, v11, v12, v13, v14] [tblO Pt lamQ, .dr] := by
  have hl := t.len
  refine ⟨by show ((as.map letP).map DV.d).length ≤ 100000; rw [List.length_map, List.length_map]; omega, ?_⟩
  refine lc_ind (fun ds acc O => ∃ a1 a2 : List (Str × Int), as = a1 ++ a2 ∧ ds = (a2.map letP).map DV.d ∧ Paired (IsLt B.sorts) acc a1 ∧ O = [tblO Pt lamQ, .dr]) (fun acc O j => ?_) (fun d ds acc O j ih => ?_) _ _ _ ⟨[], as, rfl, rfl, .nil, rfl⟩
  · obtain ⟨a1, a2, h1, h2, hp, rfl⟩ := j
    have : a2 = [] := by cases a2 with | nil => rfl | cons _ _ => cases h2
    subst this
    rw [List.append_nil] at h1
    rw [← h1] at hp
    exact ⟨trivial, law_j (v6 := none) t hp k⟩
  · obtain ⟨a1, a2, h1, h2, hp, rfl⟩ := j
    cases a2 with
    | nil => cases h2
    | cons a a2 =>
      cases h2
      have ha : a.1 ∈ B.sorts := t.so a (by rw [h1]; simp)
      refine ⟨trivial, ?_⟩
      refine ⟨rfl, 4, rfl, rfl, by decide, by decide, fun r r0 r1 => ?_⟩
      show (match (r == 0) with | true => _ | false => _)
      cases hr : (r == 0) with
      | false => exact ih _ _ ⟨a1 ++ [a], a2, by rw [h1, List.append_assoc]; rfl, rfl, paired_app hp ⟨.inr rfl, ha⟩, rfl⟩
      | true => exact ih _ _ ⟨a1 ++ [a], a2, by rw [h1, List.append_assoc]; rfl, rfl, paired_app hp ⟨.inl rfl, ha⟩, rfl⟩
end PW
namespace PW
open PySem PySem.Spec PyProof.Rows L2
section
variable {P : Program} {w : World} {K : PySem.W.Frag} {mg : Str → Option Value} {base : Heap}
abbrev nmPLaw : List Str := ["_law_script", "_law_turn", "_law_draws", "_law_plan", "_law_book", "_law_row", "_law_handed", "_law_one", "_law_again", "_law_sort", "_law_menu", "_law_odd", "_law_spot", "_law_bent", "_law_thing"]
theorem scPLaw : FnScope nmPLaw ["_law_script"] (defScope sPLaw) := ⟨rfl, rfl, rfl, by decide +kernel, rfl, by decide +kernel, by decide +kernel⟩
theorem okPLaw {f : Addr} {fd : FuncData} (T : Txt K mg)
    {fLSame : Addr} {fdLSame : FuncData} (DLSame : Def K mg "_law_same" sLSame ["_law_found", "_law_due"] fLSame fdLSame) (GLSame : FnOk P w K mg base CX0 5 fLSame fdLSame ["_law_found", "_law_due"] (liftSp K (pspSame 5)))
    {fLTried : Addr} {fdLTried : FuncData} (DLTried : Def K mg "_law_tried" sLTried ["_law_work"] fLTried fdLTried)
    {fPStandingOf : Addr} {fdPStandingOf : FuncData} (DPStandingOf : Def K mg "standing_of" sPStandingOf ["book", "row"] fPStandingOf fdPStandingOf) (GPStandingOf : FnOk P w K mg base CX0 6 fPStandingOf fdPStandingOf ["book", "row"] (liftSp K (pspStandingOf C)))
    {fLDraw : Addr} {fdLDraw : FuncData} (DLDraw : Def K mg "_law_draw" sLDraw ["_law_draws", "_law_many"] fLDraw fdLDraw) (GLDraw : FnOk P w K mg base CX0 1 fLDraw fdLDraw ["_law_draws", "_law_many"] (liftSp K pspDraw))
    {fLPick : Addr} {fdLPick : FuncData} (DLPick : Def K mg "_law_pick" sLPick ["_law_draws", "_law_xs"] fLPick fdLPick) (GLPick : FnOk P w K mg base CX0 2 fLPick fdLPick ["_law_draws", "_law_xs"] (liftSp K pspPick))
    {fLStandingBehind : Addr} {fdLStandingBehind : FuncData} (DLStandingBehind : Def K mg "_law_standing_behind" sLStandingBehind ["_law_plan", "_law_row"] fLStandingBehind fdLStandingBehind) (GLStandingBehind : FnOk P w K mg base CX0 3 fLStandingBehind fdLStandingBehind ["_law_plan", "_law_row"] (liftSp K (pspLStd K)))
    {fLSomeRow : Addr} {fdLSomeRow : FuncData} (DLSomeRow : Def K mg "_law_some_row" sLSomeRow ["_law_draws", "_law_plan", "_law_most", "_law_wide"] fLSomeRow fdLSomeRow) (GLSomeRow : FnOk P w K mg base CX0 3 fLSomeRow fdLSomeRow ["_law_draws", "_law_plan", "_law_most", "_law_wide"] (liftSp K (pspSomeRow K)))
    {fLBookOf : Addr} {fdLBookOf : FuncData} (DLBookOf : Def K mg "_law_book_of" sLBookOf ["_law_plan"] fLBookOf fdLBookOf) (GLBookOf : FnOk P w K mg base CX0 8 fLBookOf fdLBookOf ["_law_plan"] (liftSp K (pspBookOf K C)))
    {fLSomePlan : Addr} {fdLSomePlan : FuncData} (DLSomePlan : Def K mg "_law_some_plan" sLSomePlan ["_law_draws"] fLSomePlan fdLSomePlan) (GLSomePlan : FnOk P w K mg base CX0 5 fLSomePlan fdLSomePlan ["_law_draws"] (liftSp K (pspPlan K)))
    {fLSource : Addr} {fdLSource : FuncData} (DLSource : Def K mg "_law_source" sLSource ["_law_script", "_law_place"] fLSource fdLSource) (GLSource : FnOk P w K mg base CX0 1 fLSource fdLSource ["_law_script", "_law_place"] (liftSp K (pspSource K))) (GLPickX : FnOk P w K mg base CX0 2 fLPick fdLPick ["_law_draws", "_law_xs"] (liftSp K (pspPickX K))) {CE fE cd Pt : Addr} {fdE : FuncData} (GPStandingOfX : FnOk P w K mg base (L2.CX P w) 5 fPStandingOf fdPStandingOf ["book", "row"] (spRowX K C CE)) (xx : PySem.W.exmOne K (.ref CE) (.ref CE) = some true) (RE : HN.ErrC P K mg "BadLetter" "BadLetter.__init__" "index" "index" CE fE fdE) (F : HN.FunC K "law" "law" sPLaw f fd cd) (TB : LamX.TabB base mg cd Pt) :
    FnOk P w K mg base CX0 9 f fd ["_law_script"] (spLawT K Pt) := by
  obtain ⟨oc3, od3, kV3, doc3, pm3, an3, cdv3, ct3, osl3, efd3, lkTr, cdTr⟩ := DLTried.F.ex
  subst efd3
  refine fnLawT (q := lamQ) F scPLaw (fun A outer s H E hr R => (bw_cons (sw_forW PassesOwn.never rfl (iw_range1 T.range (aw_cons (ew_bin ow_add ew_int (ew_blt (b_min2 rfl) T.min (by decide +kernel) (aw_cons (ew_lenX (K := K) rfl T.len (ew_var 0)) (aw_cons ew_int aw_nil)))) aw_nil)) (gw_name (i := 1) scPLaw.nd) (bw_cons (sw_set (i := 2) scPLaw.nd (ew_call GLSource (hr.mono (by decide)) DLSource.m DLSource.F.kp DLSource.b (aw_cons (ew_var 0) (aw_cons (ew_var 1) aw_nil))))
      (bw_cons (sw_set (i := 3) scPLaw.nd (ew_call GLSomePlan (hr.mono (by decide)) DLSomePlan.m DLSomePlan.F.kp DLSomePlan.b (aw_cons (ew_var 2) aw_nil)))
      (bw_cons (sw_asgV (n := 2) rfl (aw_cons (ew_call GLBookOf (hr.mono (by decide)) DLBookOf.m DLBookOf.F.kp DLBookOf.b (aw_cons (ew_var 3) aw_nil)) (aw_cons (ew_call GLSomeRow (hr.mono (by decide)) DLSomeRow.m DLSomeRow.F.kp DLSomeRow.b (aw_cons (ew_var 2) (aw_cons (ew_var 3) (aw_cons (ew_call GLPick (hr.mono (by decide)) DLPick.m DLPick.F.kp DLPick.b (aw_cons (ew_var 2) (aw_cons (ew_lst (aw_cons ew_int (aw_cons ew_int (aw_cons ew_int aw_nil)))) aw_nil))) (aw_cons ew_int aw_nil))))) aw_nil)) (gvw_cons (gw_name (i := 4) scPLaw.nd) (gvw_cons (gw_name (i := 5) scPLaw.nd) gvw_nil)))
      (bw_cons (sw_setLc (i := 6) (own := [("_law_one", 7)]) rfl scPLaw.nd (iw_seq (ew_var 5)) (blkOk_by (N := nmPLaw) (sc := defScope sPLaw) (by decide +kernel)) (fun _ _ _ _ _ _ => (gc_name (i := 7) (by decide) scPLaw.nd)) (fun _ _ _ _ _ _ => ifw_nil) (fun _ _ _ _ _ _ => (ew_if (tw_cmp (ow_eq (hu65 hr)) (ew_call GLDraw (hr.mono (by decide)) DLDraw.m DLDraw.F.kp DLDraw.b (aw_cons (ew_var 2) (aw_cons ew_int aw_nil))) ew_int) (ew_ty b_list T.list (by decide +kernel) (aw_cons (ew_var 7) aw_nil)) (ew_var 7))))
      (bw_cons (sw_set (i := 6) scPLaw.nd (ew_if (tw_cmp (ow_eq (hu65 hr)) (ew_call GLDraw (hr.mono (by decide)) DLDraw.m DLDraw.F.kp DLDraw.b (aw_cons (ew_var 2) (aw_cons ew_int aw_nil))) ew_int) (ew_ty b_tuple T.tuple (by decide +kernel) (aw_cons (ew_var 6) aw_nil)) (ew_var 6)))
      (bw_cons (sw_forW PassesOwn.never rfl (iw_range1 T.range (aw_cons ew_int aw_nil)) (gw_name (i := 8) scPLaw.nd) (bw_one (sw_if (tw_ww (ww_or (tw_not (tw_tru (ew_call GLSame (hr.mono (by decide)) DLSame.m DLSame.F.kp DLSame.b (aw_cons (ew_call GPStandingOf (hr.mono (by decide)) DPStandingOf.m DPStandingOf.F.kp DPStandingOf.b (aw_cons (ew_var 4) (aw_cons (ew_var 6) aw_nil))) (aw_cons (ew_call GLStandingBehind (hr.mono (by decide)) DLStandingBehind.m DLStandingBehind.F.kp DLStandingBehind.b (aw_cons (ew_var 3) (aw_cons (ew_var 5) aw_nil))) aw_nil))))) (ww_or1 (tw_cmp (ow_ne (hu65 hr)) (ew_blt b_len T.len PySem.boot_len (aw_cons (ew_var 6) aw_nil)) (ew_blt b_len T.len PySem.boot_len (aw_cons (ew_var 5) aw_nil)))))) (bw_one (sw_ret ew_bl)) bw_nil)))
      (bw_cons (sw_set (i := 9) scPLaw.nd (ew_ix (ew_ixP (K := K) rfl 1 (ew_var 3)) ew_int))
      (bw_cons (sw_set (i := 10) scPLaw.nd (ew_lst (aw_cons ew_non (aw_cons ew_int (aw_cons (ew_var 9) (aw_cons (ew_tup (aw_cons (ew_var 9) aw_nil)) (aw_cons (ew_tup (aw_cons (ew_var 9) (aw_cons ew_int (aw_cons ew_int aw_nil)))) (aw_cons (ew_tup (aw_cons ew_str (aw_cons ew_int aw_nil))) (aw_cons (ew_tup (aw_cons (ew_var 9) (aw_cons ew_bl aw_nil))) (aw_cons (ew_tup (aw_cons (ew_var 9) (aw_cons ew_str aw_nil))) (aw_cons (ew_tup (aw_cons ew_int (aw_cons (ew_var 9) aw_nil))) (aw_cons (ew_tup aw_nil) (aw_cons (ew_tup (aw_cons (ew_lst aw_nil) (aw_cons ew_int aw_nil))) aw_nil)))))))))))))
      (bw_cons (sw_set (i := 11) scPLaw.nd (ew_call GLPick (hr.mono (by decide)) DLPick.m DLPick.F.kp DLPick.b (aw_cons (ew_var 2) (aw_cons (ew_var 10) aw_nil))))
      (bw_cons (sw_set (i := 12) scPLaw.nd (ew_call GLDraw (hr.mono (by decide)) DLDraw.m DLDraw.F.kp DLDraw.b (aw_cons (ew_var 2) (aw_cons (ew_bin ow_add (ew_blt b_len T.len PySem.boot_len (aw_cons (ew_var 5) aw_nil)) ew_int) aw_nil))))
      (bw_cons (sw_set (i := 13) scPLaw.nd (ew_bin ow_add (ew_bin ow_add (ew_ty b_list T.list (by decide +kernel) (aw_cons (ew_slice (ew_var 6) ow_noPart (ow_part (ew_var 12))) aw_nil)) (ew_lst (aw_cons (ew_var 11) (aw_cons ew_non aw_nil)))) (ew_ty b_list T.list (by decide +kernel) (aw_cons (ew_slice (ew_var 6) (ow_part (ew_var 12)) ow_noPart) aw_nil))))
      (bw_cons (sw_if (tw_not (tw_tru (ew_call GLSame (hr.mono (by decide)) DLSame.m DLSame.F.kp DLSame.b (aw_cons (ew_triedRow (K := K) (ib := 4) (ia := 13) rfl rfl (by rfl) DLTried.m DLTried.F.kp lkTr cdTr DLTried.b xx RE TB rfl (hr.mono (by decide)) (LamX.lamS_by (show LamX.lamSB (defScope sPLaw) _ = true by decide +kernel)) rfl (fun _ _ _ _ _ => rfl) (fun A2 o2 s2 H2 E2 f2 c2 hr2 => pe_conv (pe_call GPStandingOfX hr2 (by rfl) DPStandingOf.m DPStandingOf.F.kp DPStandingOf.b .nil (passes_call (takes_of rfl rfl rfl rfl) fun _ _ _ _ z => z) (pa_cons (pv 4) (pa_cons (pv 13) pa_nil))) (fun σ H Q ⟨v, h1, u, h2, h3⟩ => ⟨v, h1, u, h2, h3⟩))) (aw_cons (ew_tup (aw_cons ew_str (aw_cons (ew_var 12) aw_nil))) aw_nil))))) (bw_one (sw_ret ew_bl)) bw_nil)
      (bw_cons (sw_set (i := 14) scPLaw.nd (ew_call GLPickX (hr.mono (by decide)) DLPick.m DLPick.F.kp DLPick.b (aw_cons (ew_var 2) (aw_cons (ew_lstX (K := K) rfl (aw_cons ew_non (aw_cons ew_int (aw_cons ew_str (aw_cons (ew_dict0 (K := K) rfl) aw_nil))))) aw_nil))))
      (bw_one (sw_if (tw_not (tw_tru (ew_call GLSame (hr.mono (by decide)) DLSame.m DLSame.F.kp DLSame.b (aw_cons (ew_triedRow (K := K) (ib := 4) (ia := 14) rfl rfl (by rfl) DLTried.m DLTried.F.kp lkTr cdTr DLTried.b xx RE TB rfl (hr.mono (by decide)) (LamX.lamS_by (show LamX.lamSB (defScope sPLaw) _ = true by decide +kernel)) rfl (fun _ _ _ _ _ => rfl) (fun A2 o2 s2 H2 E2 f2 c2 hr2 => pe_conv (pe_call GPStandingOfX hr2 (by rfl) DPStandingOf.m DPStandingOf.F.kp DPStandingOf.b .nil (passes_call (takes_of rfl rfl rfl rfl) fun _ _ _ _ z => z) (pa_cons (pv 4) (pa_cons (pv 14) pa_nil))) (fun σ H Q ⟨v, h1, u, h2, h3⟩ => ⟨v, h1, u, h2, h3⟩))) (aw_cons (ew_tup (aw_cons ew_str (aw_cons ew_int aw_nil))) aw_nil))))) (bw_one (sw_ret ew_bl)) bw_nil))))))))))))))))
      (bw_one (sw_ret ew_bl)))) (fun ns hn => ?_)
  have hb : (0 : Int) ≤ (4 + if (4 : Int) < (ns.length : Int) then 4 else (ns.length : Int)) ∧ (4 + if (4 : Int) < (ns.length : Int) then 4 else (ns.length : Int)) ≤ 8 := by split <;> omega
  refine ⟨ns, rfl, ⟨by have := hb.1; omega, by have := hb.2; omega⟩, ?_⟩
  refine loopW_ind (fun ds Γ O => (∀ d ∈ ds, ∃ k : Int, d = .d (.int k) ∧ 0 ≤ k ∧ k ≤ 1000) ∧ (∃ u1 u2 u3 u4 u5 u6 u7 u8 u9 u10 u11 u12 u13 u14, Γ = [some (.x (scriptψ K ns)), u1, u2, u3, u4, u5, u6, u7, u8, u9, u10, u11, u12, u13, u14]) ∧ O = [tblO Pt lamQ])
    (fun Γ O j => ?_) (fun d ds Γ O j ih => ?_) _ _ _ ⟨fun d hd => ?_, ⟨none, none, none, none, none, none, none, none, none, none, none, none, none, none, rfl⟩, rfl⟩
  · obtain ⟨_, ⟨u1, u2, u3, u4, u5, u6, u7, u8, u9, u10, u11, u12, u13, u14, rfl⟩, rfl⟩ := j
    exact ⟨trivial, rfl⟩
  · obtain ⟨hds, ⟨u1, u2, u3, u4, u5, u6, u7, u8, u9, u10, u11, u12, u13, u14, rfl⟩, rfl⟩ := j
    obtain ⟨i, rfl, i0, i1⟩ := hds d List.mem_cons_self
    refine ⟨trivial, ?_⟩
    refine ⟨rfl, ns, i, rfl, rfl, i0, i1, ?_⟩
    refine ⟨rfl, rfl, rfl, fun B gM => ?_⟩
    have gB := gM.good
    refine ⟨rfl, B, rfl, rfl, gB, ?_⟩
    refine ⟨rfl, _, rfl, rfl, by simp, by simp, fun d hd => ?_⟩
    have hd' : ∃ m : Int, d = .int m ∧ 0 ≤ m ∧ m ≤ 40 := by
      have : d = .int 10 ∨ d = .int 10 ∨ d = .int 40 := by simpa using hd
      rcases this with rfl | rfl | rfl
      · exact ⟨10, rfl, by decide, by decide⟩
      · exact ⟨10, rfl, by decide, by decide⟩
      · exact ⟨40, rfl, by decide, by decide⟩
    obtain ⟨m, rfl, m0, m1⟩ := hd'
    refine ⟨rfl, B, m, 7, rfl, rfl, m0, by omega, by decide, by decide, sorts_ne gB, gB.2.1.2.1, fun as hA => ?_⟩
    have hl : as.length ≤ 42 := by have := hA.len; omega
    refine ⟨rfl, rfl, ?_⟩
    exact law_i ⟨gM, hA.so, hl⟩ fun v6 v7 v8 v9 v10 v11 v12 v13 v14 => ih _ _ ⟨fun d hd => hds d (List.mem_cons_of_mem _ hd), ⟨_, _, _, _, _, _, _, _, _, _, _, _, _, _, rfl⟩, rfl⟩
  · obtain ⟨i, h1, h2, h3⟩ := rngD_mem hd
    exact ⟨i, h1, h2, by have := hb.2; omega⟩
end
end PW

namespace PW
open PySem L2 PyProof.Rows LamX
theorem all_mk {l : PySem.W.OpenLaw} {w : World} {K : PySem.W.Frag} {h : Heap} {mg : Str → Option Value} {fa : Addr} (X : K.In h) (G : h.Ns mainGlobals mg) (hfa : mg "law" = some (.ref fa))
    {CEL fEL ccEL cdEL : Addr} {odEL anEL o1EL o2EL : Option Addr} {slEL s1EL s2EL : Array (Option Value)} {ocEL kVEL dcEL pmEL ctEL c1EL c2EL : Value} {vEL : Array Value} {fileEL : Str} {tfEL : Tok} {nmEL qEL : Str} {NEL : Addr} {bsEL bmEL : List Value} {snEL : List Str} {subEL : List Value} {abEL : Bool} {colEL : Option Bool} {ddEL : Option Addr} {k0EL k1EL k2EL k3EL k5EL : Option Value}
    {f1 : Addr} {od1 an1 : Option Addr} {sl1 : Array (Option Value)} {oc1 dc1 pm1 cd1 ct1 kV1 : Value}
    {f2 : Addr} {od2 an2 : Option Addr} {sl2 : Array (Option Value)} {oc2 dc2 pm2 cd2 ct2 kV2 : Value}
    {f3 : Addr} {od3 an3 : Option Addr} {sl3 : Array (Option Value)} {oc3 dc3 pm3 cd3 ct3 kV3 : Value}
    {f4 : Addr} {od4 an4 : Option Addr} {sl4 : Array (Option Value)} {oc4 dc4 pm4 cd4 ct4 kV4 : Value}
    {f5 : Addr} {od5 an5 : Option Addr} {sl5 : Array (Option Value)} {oc5 dc5 pm5 cd5 ct5 kV5 : Value}
    {f6 : Addr} {od6 an6 : Option Addr} {sl6 : Array (Option Value)} {oc6 dc6 pm6 cd6 ct6 kV6 : Value}
    {f7 : Addr} {od7 an7 : Option Addr} {sl7 : Array (Option Value)} {oc7 dc7 pm7 cd7 ct7 kV7 : Value}
    {f8 : Addr} {od8 an8 : Option Addr} {sl8 : Array (Option Value)} {oc8 dc8 pm8 cd8 ct8 kV8 : Value}
    {f9 : Addr} {od9 an9 : Option Addr} {sl9 : Array (Option Value)} {oc9 dc9 pm9 cd9 ct9 kV9 : Value}
    {f10 : Addr} {od10 an10 : Option Addr} {sl10 : Array (Option Value)} {oc10 dc10 pm10 cd10 ct10 kV10 : Value}
    {f11 : Addr} {od11 an11 : Option Addr} {sl11 : Array (Option Value)} {oc11 dc11 pm11 cd11 ct11 kV11 : Value}
    {f12 : Addr} {od12 an12 : Option Addr} {sl12 : Array (Option Value)} {oc12 dc12 pm12 cd12 ct12 kV12 : Value}
    {f13 : Addr} {od13 an13 : Option Addr} {sl13 : Array (Option Value)} {oc13 dc13 pm13 cd13 ct13 kV13 : Value}
    {f14 : Addr} {od14 an14 : Option Addr} {sl14 : Array (Option Value)} {oc14 dc14 pm14 cd14 ct14 kV14 : Value}
    {f15 : Addr} {od15 an15 : Option Addr} {sl15 : Array (Option Value)} {oc15 dc15 pm15 cd15 ct15 kV15 : Value}
    {f16 : Addr} {od16 an16 : Option Addr} {sl16 : Array (Option Value)} {oc16 dc16 pm16 cd16 ct16 kV16 : Value}
    {f17 : Addr} {od17 an17 : Option Addr} {sl17 : Array (Option Value)} {oc17 dc17 pm17 cd17 ct17 kV17 : Value}
    {f18 : Addr} {od18 an18 : Option Addr} {sl18 : Array (Option Value)} {oc18 dc18 pm18 cd18 ct18 kV18 : Value}
    {f19 : Addr} {od19 an19 : Option Addr} {sl19 : Array (Option Value)} {oc19 dc19 pm19 cd19 ct19 kV19 : Value}
    {f20 : Addr} {od20 an20 : Option Addr} {sl20 : Array (Option Value)} {oc20 dc20 pm20 cd20 ct20 kV20 : Value}
    {f21 : Addr} {od21 an21 : Option Addr} {sl21 : Array (Option Value)} {oc21 dc21 pm21 cd21 ct21 kV21 : Value}
    {f22 : Addr} {od22 an22 : Option Addr} {sl22 : Array (Option Value)} {oc22 dc22 pm22 cd22 ct22 kV22 : Value}
    {f23 : Addr} {od23 an23 : Option Addr} {sl23 : Array (Option Value)} {oc23 dc23 pm23 cd23 ct23 kV23 : Value}
    {f24 : Addr} {od24 an24 : Option Addr} {sl24 : Array (Option Value)} {oc24 dc24 pm24 cd24 ct24 kV24 : Value}
    {f25 : Addr} {od25 an25 : Option Addr} {sl25 : Array (Option Value)} {oc25 dc25 pm25 cd25 ct25 kV25 : Value}
    {f26 : Addr} {od26 an26 : Option Addr} {sl26 : Array (Option Value)} {oc26 dc26 pm26 cd26 ct26 kV26 : Value}
    {f27 : Addr} {od27 an27 : Option Addr} {sl27 : Array (Option Value)} {oc27 dc27 pm27 cd27 ct27 kV27 : Value}
    {f28 : Addr} {od28 an28 : Option Addr} {sl28 : Array (Option Value)} {oc28 dc28 pm28 cd28 ct28 kV28 : Value}
    {f29 : Addr} {od29 an29 : Option Addr} {sl29 : Array (Option Value)} {oc29 dc29 pm29 cd29 ct29 kV29 : Value}
    {f30 : Addr} {od30 an30 : Option Addr} {sl30 : Array (Option Value)} {oc30 dc30 pm30 cd30 ct30 kV30 : Value}
    {f31 : Addr} {od31 an31 : Option Addr} {sl31 : Array (Option Value)} {oc31 dc31 pm31 cd31 ct31 kV31 : Value}
    {f32 : Addr} {od32 an32 : Option Addr} {sl32 : Array (Option Value)} {oc32 dc32 pm32 cd32 ct32 kV32 : Value}
    {f33 : Addr} {od33 an33 : Option Addr} {sl33 : Array (Option Value)} {oc33 dc33 pm33 cd33 ct33 kV33 : Value}
    {f34 : Addr} {od34 an34 : Option Addr} {sl34 : Array (Option Value)} {oc34 dc34 pm34 cd34 ct34 kV34 : Value}
    {f35 : Addr} {od35 an35 : Option Addr} {sl35 : Array (Option Value)} {oc35 dc35 pm35 cd35 ct35 kV35 : Value}
    {f36 : Addr} {od36 an36 : Option Addr} {sl36 : Array (Option Value)} {oc36 dc36 pm36 cd36 ct36 kV36 : Value}
    {f37 : Addr} {od37 an37 : Option Addr} {sl37 : Array (Option Value)} {oc37 dc37 pm37 cd37 ct37 kV37 : Value}
    {f38 : Addr} {od38 an38 : Option Addr} {sl38 : Array (Option Value)} {oc38 dc38 pm38 cd38 ct38 kV38 : Value}
    {f39 cdL Pt : Addr} {od39 an39 oL : Option Addr} {sl39 slL : Array (Option Value)} {oc39 kV39 dc39 pm39 ct39 ccL : Value} {vL : Array Value}
    {CB : Addr}
    {CC : Addr}
    {f40 : Addr} {od40 an40 : Option Addr} {sl40 : Array (Option Value)} {oc40 dc40 pm40 cd40 ct40 kV40 : Value}
    {f41 : Addr} {od41 an41 : Option Addr} {sl41 : Array (Option Value)} {oc41 dc41 pm41 cd41 ct41 kV41 : Value}
    {f42 : Addr} {od42 an42 : Option Addr} {sl42 : Array (Option Value)} {oc42 dc42 pm42 cd42 ct42 kV42 : Value}
    {f43 : Addr} {od43 an43 : Option Addr} {sl43 : Array (Option Value)} {oc43 dc43 pm43 cd43 ct43 kV43 : Value}
    {DkB : Addr}
    {f44 : Addr} {od44 an44 : Option Addr} {sl44 : Array (Option Value)} {oc44 dc44 pm44 cd44 ct44 : Value}
    {TdC TeC : Addr} {oTdC oTeC : Option Addr} {sTdC sTeC : Array (Option Value)} {nTdC nTeC : Nat}
    {f45 : Addr} {od45 an45 : Option Addr} {sl45 : Array (Option Value)} {oc45 dc45 pm45 cd45 ct45 kV45 : Value}
    {tAGESx0 : Tok}
    {tAGESx1 : Tok}
    {tAGESx2 : Tok}
    {aAGES : Addr} {oAGES : Option Addr} {slAGES : Array (Option Value)} {nAGES : Nat}
    {tWHOLE : Tok}
    {tFIRST_SPOTSx0x0 : Tok}
    {tFIRST_SPOTSx0x1 : Tok}
    {aFIRST_SPOTSx0 : Addr} {oFIRST_SPOTSx0 : Option Addr} {slFIRST_SPOTSx0 : Array (Option Value)} {nFIRST_SPOTSx0 : Nat}
    {aFIRST_SPOTS : Addr} {oFIRST_SPOTS : Option Addr} {slFIRST_SPOTS : Array (Option Value)} {nFIRST_SPOTS : Nat}
    {tSPOTSv0x0x0 : Tok}
    {tSPOTSv0x0x1 : Tok}
    {aSPOTSv0x0 : Addr} {oSPOTSv0x0 : Option Addr} {slSPOTSv0x0 : Array (Option Value)} {nSPOTSv0x0 : Nat}
    {tSPOTSv0x1x0 : Tok}
    {tSPOTSv0x1x1 : Tok}
    {aSPOTSv0x1 : Addr} {oSPOTSv0x1 : Option Addr} {slSPOTSv0x1 : Array (Option Value)} {nSPOTSv0x1 : Nat}
    {tSPOTSv0x2x0 : Tok}
    {tSPOTSv0x2x1 : Tok}
    {aSPOTSv0x2 : Addr} {oSPOTSv0x2 : Option Addr} {slSPOTSv0x2 : Array (Option Value)} {nSPOTSv0x2 : Nat}
    {tSPOTSv0x3x0 : Tok}
    {tSPOTSv0x3x1 : Tok}
    {aSPOTSv0x3 : Addr} {oSPOTSv0x3 : Option Addr} {slSPOTSv0x3 : Array (Option Value)} {nSPOTSv0x3 : Nat}
    {tSPOTSv0x4x0 : Tok}
    {tSPOTSv0x4x1 : Tok}
    {aSPOTSv0x4 : Addr} {oSPOTSv0x4 : Option Addr} {slSPOTSv0x4 : Array (Option Value)} {nSPOTSv0x4 : Nat}
    {aSPOTSv0 : Addr} {oSPOTSv0 : Option Addr} {slSPOTSv0 : Array (Option Value)} {nSPOTSv0 : Nat}
    {tSPOTSv1x0x0 : Tok}
    {tSPOTSv1x0x1 : Tok}
    {aSPOTSv1x0 : Addr} {oSPOTSv1x0 : Option Addr} {slSPOTSv1x0 : Array (Option Value)} {nSPOTSv1x0 : Nat}
    {tSPOTSv1x1x0 : Tok}
    {tSPOTSv1x1x1 : Tok}
    {aSPOTSv1x1 : Addr} {oSPOTSv1x1 : Option Addr} {slSPOTSv1x1 : Array (Option Value)} {nSPOTSv1x1 : Nat}
    {tSPOTSv1x2x0 : Tok}
    {tSPOTSv1x2x1 : Tok}
    {aSPOTSv1x2 : Addr} {oSPOTSv1x2 : Option Addr} {slSPOTSv1x2 : Array (Option Value)} {nSPOTSv1x2 : Nat}
    {aSPOTSv1 : Addr} {oSPOTSv1 : Option Addr} {slSPOTSv1 : Array (Option Value)} {nSPOTSv1 : Nat}
    {tSPOTSv2x0x0 : Tok}
    {tSPOTSv2x0x1 : Tok}
    {aSPOTSv2x0 : Addr} {oSPOTSv2x0 : Option Addr} {slSPOTSv2x0 : Array (Option Value)} {nSPOTSv2x0 : Nat}
    {tSPOTSv2x1x0 : Tok}
    {tSPOTSv2x1x1 : Tok}
    {aSPOTSv2x1 : Addr} {oSPOTSv2x1 : Option Addr} {slSPOTSv2x1 : Array (Option Value)} {nSPOTSv2x1 : Nat}
    {tSPOTSv2x2x0 : Tok}
    {tSPOTSv2x2x1 : Tok}
    {aSPOTSv2x2 : Addr} {oSPOTSv2x2 : Option Addr} {slSPOTSv2x2 : Array (Option Value)} {nSPOTSv2x2 : Nat}
    {aSPOTSv2 : Addr} {oSPOTSv2 : Option Addr} {slSPOTSv2 : Array (Option Value)} {nSPOTSv2 : Nat}
    {aSPOTS : Addr} {esSPOTS : Array DictEntry} {nSPOTS : Nat}
    (z_str : PySem.W.nsIn K mainGlobals "str" = some none)
    (z_dict : PySem.W.nsIn K mainGlobals "dict" = some none)
    (z_set : PySem.W.nsIn K mainGlobals "set" = some none)
    (z_sorted : PySem.W.nsIn K mainGlobals "sorted" = some none)
    (z_range : PySem.W.nsIn K mainGlobals "range" = some none)
    (z_min : PySem.W.nsIn K mainGlobals "min" = some none)
    (z_max : PySem.W.nsIn K mainGlobals "max" = some none)
    (z_sum : PySem.W.nsIn K mainGlobals "sum" = some none)
    (z_len : PySem.W.nsIn K mainGlobals "len" = some none)
    (z_int : PySem.W.nsIn K mainGlobals "int" = some none)
    (z_isinstance : PySem.W.nsIn K mainGlobals "isinstance" = some none)
    (z_all : PySem.W.nsIn K mainGlobals "all" = some none)
    (z_any : PySem.W.nsIn K mainGlobals "any" = some none)
    (z_zip : PySem.W.nsIn K mainGlobals "zip" = some none)
    (z_enumerate : PySem.W.nsIn K mainGlobals "enumerate" = some none)
    (z_list : PySem.W.nsIn K mainGlobals "list" = some none)
    (z_tuple : PySem.W.nsIn K mainGlobals "tuple" = some none)
    (z_bool : PySem.W.nsIn K mainGlobals "bool" = some none)
    (z_repr : PySem.W.nsIn K mainGlobals "repr" = some none)
    (opS : PySem.W.nsIn K cStatics "thirdparty.any" = some none)
    (z_super : PySem.W.nsIn K mainGlobals "super" = some none)
    (topS : (l.prog.main.scope.names.lookup ("super" : Str)).isSome = false)
    (aEL : PySem.W.nsIn K mainGlobals "BadLetter" = some (some (.ref CEL)))
    (xEL : K.lookup CEL = some (PySem.excClassObj nmEL qEL CEL NEL bsEL bmEL true snEL subEL abEL colEL ddEL k0EL k1EL k2EL k3EL k5EL "ValueError.__new__"))
    (rEL : PySem.HandSPX.refsVE bmEL = true)
    (saEL : PySem.W.findIn K (.ref CEL) "__setattr__" = some (some (.builtin "object.__setattr__")))
    (eEL : PySem.W.subIn K (.ref CEL) (.type "BaseException") = some true)
    (tEL : PySem.W.typeIn K (.ref CEL) = some (.type "type"))
    (kEL : PySem.W.keepIn K (.ref CEL) = true)
    (suEL : PySem.W.mroIn K CEL (.ref CEL) = some true)
    (alEL : PySem.W.ks_superIn K CEL CEL "__init__" = some (some (.builtin "ValueError.__init__")))
    (veEL : PySem.W.subIn K (.ref CEL) (.type "ValueError") = some true)
    (noEL : PySem.W.findIn K (.ref CEL) "index" = some none)
    (iEL : PySem.W.findIn K (.ref CEL) "__init__" = some (some (.ref fEL)))
    (tiEL : PySem.W.typeIn K (.ref fEL) = some (.type "function"))
    (lEL : K.lookup fEL = some ⟨ocEL, odEL, .func (PySem.W.ksFn "__init__" "BadLetter.__init__" (defArgs (inClass HN.sBadletter 0)) (defBody (inClass HN.sBadletter 0)) (defScope (inClass HN.sBadletter 0)) .none kVEL dcEL pmEL anEL (.ref cdEL) ctEL ccEL), slEL⟩)
    (cEL : PySem.W.codeIn K (.ref cdEL) "BadLetter.__init__" = true)
    (qaEL : K.lookup ccEL = some ⟨c1EL, o1EL, .cell (some (.ref CEL)), s1EL⟩)
    (qbEL : K.lookup cdEL = some ⟨c2EL, o2EL, .fields vEL, s2EL⟩)
    (qcEL : vEL[2]? = some (.str fileEL tfEL))
    (qdEL : ((l.prog.main.file : Str) == fileEL) = true)
    (gaEL : PySem.W.findIn K (.ref CEL) "__getattribute__" = some (some (.builtin "BaseException.__getattribute__")))
    (ggEL : PySem.W.findIn K (.ref CEL) "__getattr__" = some none)
    (hdEL : PySem.W.hasDictIn K CEL = true)
    (xx : PySem.W.exmOne K (.ref CEL) (.ref CEL) = some true)
    (a1 : PySem.W.nsIn K mainGlobals "is_list" = some (some (.ref f1)))
    (l1 : K.lookup f1 = some ⟨oc1, od1, .func (PySem.W.fnOf "is_list" "is_list" (defArgs sPIsList) (defBody sPIsList) (defScope sPIsList) .none kV1 dc1 pm1 an1 cd1 ct1), sl1⟩)
    (c1 : PySem.W.codeIn K cd1 "is_list" = true)
    (k1 : PySem.W.keepIn K (.ref f1) = true)
    (a2 : PySem.W.nsIn K mainGlobals "is_int" = some (some (.ref f2)))
    (l2 : K.lookup f2 = some ⟨oc2, od2, .func (PySem.W.fnOf "is_int" "is_int" (defArgs sPIsInt) (defBody sPIsInt) (defScope sPIsInt) .none kV2 dc2 pm2 an2 cd2 ct2), sl2⟩)
    (c2 : PySem.W.codeIn K cd2 "is_int" = true)
    (k2 : PySem.W.keepIn K (.ref f2) = true)
    (a3 : PySem.W.nsIn K mainGlobals "is_int_within" = some (some (.ref f3)))
    (l3 : K.lookup f3 = some ⟨oc3, od3, .func (PySem.W.fnOf "is_int_within" "is_int_within" (defArgs sPIsIntWithin) (defBody sPIsIntWithin) (defScope sPIsIntWithin) .none kV3 dc3 pm3 an3 cd3 ct3), sl3⟩)
    (c3 : PySem.W.codeIn K cd3 "is_int_within" = true)
    (k3 : PySem.W.keepIn K (.ref f3) = true)
    (a4 : PySem.W.nsIn K mainGlobals "is_word" = some (some (.ref f4)))
    (l4 : K.lookup f4 = some ⟨oc4, od4, .func (PySem.W.fnOf "is_word" "is_word" (defArgs sPIsWord) (defBody sPIsWord) (defScope sPIsWord) .none kV4 dc4 pm4 an4 cd4 ct4), sl4⟩)
    (c4 : PySem.W.codeIn K cd4 "is_word" = true)
    (k4 : PySem.W.keepIn K (.ref f4) = true)
    (a5 : PySem.W.nsIn K mainGlobals "is_word_list" = some (some (.ref f5)))
    (l5 : K.lookup f5 = some ⟨oc5, od5, .func (PySem.W.fnOf "is_word_list" "is_word_list" (defArgs sPIsWordList) (defBody sPIsWordList) (defScope sPIsWordList) .none kV5 dc5 pm5 an5 cd5 ct5), sl5⟩)
    (c5 : PySem.W.codeIn K cd5 "is_word_list" = true)
    (k5 : PySem.W.keepIn K (.ref f5) = true)
    (a6 : PySem.W.nsIn K mainGlobals "idle_effect" = some (some (.ref f6)))
    (l6 : K.lookup f6 = some ⟨oc6, od6, .func (PySem.W.fnOf "idle_effect" "idle_effect" (defArgs sPIdleEffect) (defBody sPIdleEffect) (defScope sPIdleEffect) .none kV6 dc6 pm6 an6 cd6 ct6), sl6⟩)
    (c6 : PySem.W.codeIn K cd6 "idle_effect" = true)
    (k6 : PySem.W.keepIn K (.ref f6) = true)
    (a7 : PySem.W.nsIn K mainGlobals "is_key" = some (some (.ref f7)))
    (l7 : K.lookup f7 = some ⟨oc7, od7, .func (PySem.W.fnOf "is_key" "is_key" (defArgs sPIsKey) (defBody sPIsKey) (defScope sPIsKey) .none kV7 dc7 pm7 an7 cd7 ct7), sl7⟩)
    (c7 : PySem.W.codeIn K cd7 "is_key" = true)
    (k7 : PySem.W.keepIn K (.ref f7) = true)
    (a8 : PySem.W.nsIn K mainGlobals "is_step" = some (some (.ref f8)))
    (l8 : K.lookup f8 = some ⟨oc8, od8, .func (PySem.W.fnOf "is_step" "is_step" (defArgs sPIsStep) (defBody sPIsStep) (defScope sPIsStep) .none kV8 dc8 pm8 an8 cd8 ct8), sl8⟩)
    (c8 : PySem.W.codeIn K cd8 "is_step" = true)
    (k8 : PySem.W.keepIn K (.ref f8) = true)
    (a9 : PySem.W.nsIn K mainGlobals "is_effect" = some (some (.ref f9)))
    (l9 : K.lookup f9 = some ⟨oc9, od9, .func (PySem.W.fnOf "is_effect" "is_effect" (defArgs sPIsEffect) (defBody sPIsEffect) (defScope sPIsEffect) .none kV9 dc9 pm9 an9 cd9 ct9), sl9⟩)
    (c9 : PySem.W.codeIn K cd9 "is_effect" = true)
    (k9 : PySem.W.keepIn K (.ref f9) = true)
    (a10 : PySem.W.nsIn K mainGlobals "told_effects" = some (some (.ref f10)))
    (l10 : K.lookup f10 = some ⟨oc10, od10, .func (PySem.W.fnOf "told_effects" "told_effects" (defArgs sPToldEffects) (defBody sPToldEffects) (defScope sPToldEffects) .none kV10 dc10 pm10 an10 cd10 ct10), sl10⟩)
    (c10 : PySem.W.codeIn K cd10 "told_effects" = true)
    (k10 : PySem.W.keepIn K (.ref f10) = true)
    (a11 : PySem.W.nsIn K mainGlobals "told_worths" = some (some (.ref f11)))
    (l11 : K.lookup f11 = some ⟨oc11, od11, .func (PySem.W.fnOf "told_worths" "told_worths" (defArgs sPToldWorths) (defBody sPToldWorths) (defScope sPToldWorths) .none kV11 dc11 pm11 an11 cd11 ct11), sl11⟩)
    (c11 : PySem.W.codeIn K cd11 "told_worths" = true)
    (k11 : PySem.W.keepIn K (.ref f11) = true)
    (a12 : PySem.W.nsIn K mainGlobals "is_letter" = some (some (.ref f12)))
    (l12 : K.lookup f12 = some ⟨oc12, od12, .func (PySem.W.fnOf "is_letter" "is_letter" (defArgs sPIsLetter) (defBody sPIsLetter) (defScope sPIsLetter) .none kV12 dc12 pm12 an12 cd12 ct12), sl12⟩)
    (c12 : PySem.W.codeIn K cd12 "is_letter" = true)
    (k12 : PySem.W.keepIn K (.ref f12) = true)
    (a13 : PySem.W.nsIn K mainGlobals "bad_index" = some (some (.ref f13)))
    (l13 : K.lookup f13 = some ⟨oc13, od13, .func (PySem.W.fnOf "bad_index" "bad_index" (defArgs sPBadIndex) (defBody sPBadIndex) (defScope sPBadIndex) .none kV13 dc13 pm13 an13 cd13 ct13), sl13⟩)
    (c13 : PySem.W.codeIn K cd13 "bad_index" = true)
    (k13 : PySem.W.keepIn K (.ref f13) = true)
    (a14 : PySem.W.nsIn K mainGlobals "first_standing" = some (some (.ref f14)))
    (l14 : K.lookup f14 = some ⟨oc14, od14, .func (PySem.W.fnOf "first_standing" "first_standing" (defArgs sPFirstStanding) (defBody sPFirstStanding) (defScope sPFirstStanding) .none kV14 dc14 pm14 an14 cd14 ct14), sl14⟩)
    (c14 : PySem.W.codeIn K cd14 "first_standing" = true)
    (k14 : PySem.W.keepIn K (.ref f14) = true)
    (a15 : PySem.W.nsIn K mainGlobals "spots_at" = some (some (.ref f15)))
    (l15 : K.lookup f15 = some ⟨oc15, od15, .func (PySem.W.fnOf "spots_at" "spots_at" (defArgs sPSpotsAt) (defBody sPSpotsAt) (defScope sPSpotsAt) .none kV15 dc15 pm15 an15 cd15 ct15), sl15⟩)
    (c15 : PySem.W.codeIn K cd15 "spots_at" = true)
    (k15 : PySem.W.keepIn K (.ref f15) = true)
    (a16 : PySem.W.nsIn K mainGlobals "spot_of" = some (some (.ref f16)))
    (l16 : K.lookup f16 = some ⟨oc16, od16, .func (PySem.W.fnOf "spot_of" "spot_of" (defArgs sPSpotOf) (defBody sPSpotOf) (defScope sPSpotOf) .none kV16 dc16 pm16 an16 cd16 ct16), sl16⟩)
    (c16 : PySem.W.codeIn K cd16 "spot_of" = true)
    (k16 : PySem.W.keepIn K (.ref f16) = true)
    (a17 : PySem.W.nsIn K mainGlobals "key_at" = some (some (.ref f17)))
    (l17 : K.lookup f17 = some ⟨oc17, od17, .func (PySem.W.fnOf "key_at" "key_at" (defArgs sPKeyAt) (defBody sPKeyAt) (defScope sPKeyAt) .none kV17 dc17 pm17 an17 cd17 ct17), sl17⟩)
    (c17 : PySem.W.codeIn K cd17 "key_at" = true)
    (k17 : PySem.W.keepIn K (.ref f17) = true)
    (a18 : PySem.W.nsIn K mainGlobals "standing_behind" = some (some (.ref f18)))
    (l18 : K.lookup f18 = some ⟨oc18, od18, .func (PySem.W.fnOf "standing_behind" "standing_behind" (defArgs sPStandingBehind) (defBody sPStandingBehind) (defScope sPStandingBehind) .none kV18 dc18 pm18 an18 cd18 ct18), sl18⟩)
    (c18 : PySem.W.codeIn K cd18 "standing_behind" = true)
    (k18 : PySem.W.keepIn K (.ref f18) = true)
    (a19 : PySem.W.nsIn K mainGlobals "move_by" = some (some (.ref f19)))
    (l19 : K.lookup f19 = some ⟨oc19, od19, .func (PySem.W.fnOf "move_by" "move_by" (defArgs sPMoveBy) (defBody sPMoveBy) (defScope sPMoveBy) .none kV19 dc19 pm19 an19 cd19 ct19), sl19⟩)
    (c19 : PySem.W.codeIn K cd19 "move_by" = true)
    (k19 : PySem.W.keepIn K (.ref f19) = true)
    (a20 : PySem.W.nsIn K mainGlobals "check_row" = some (some (.ref f20)))
    (l20 : K.lookup f20 = some ⟨oc20, od20, .func (PySem.W.fnOf "check_row" "check_row" (defArgs sPCheckRow) (defBody sPCheckRow) (defScope sPCheckRow) .none kV20 dc20 pm20 an20 cd20 ct20), sl20⟩)
    (c20 : PySem.W.codeIn K cd20 "check_row" = true)
    (k20 : PySem.W.keepIn K (.ref f20) = true)
    (a21 : PySem.W.nsIn K mainGlobals "standing_of" = some (some (.ref f21)))
    (l21 : K.lookup f21 = some ⟨oc21, od21, .func (PySem.W.fnOf "standing_of" "standing_of" (defArgs sPStandingOf) (defBody sPStandingOf) (defScope sPStandingOf) .none kV21 dc21 pm21 an21 cd21 ct21), sl21⟩)
    (c21 : PySem.W.codeIn K cd21 "standing_of" = true)
    (k21 : PySem.W.keepIn K (.ref f21) = true)
    (a22 : PySem.W.nsIn K mainGlobals "_law_source" = some (some (.ref f22)))
    (l22 : K.lookup f22 = some ⟨oc22, od22, .func (PySem.W.fnOf "_law_source" "_law_source" (defArgs sLSource) (defBody sLSource) (defScope sLSource) .none kV22 dc22 pm22 an22 cd22 ct22), sl22⟩)
    (c22 : PySem.W.codeIn K cd22 "_law_source" = true)
    (k22 : PySem.W.keepIn K (.ref f22) = true)
    (a23 : PySem.W.nsIn K mainGlobals "_law_draw" = some (some (.ref f23)))
    (l23 : K.lookup f23 = some ⟨oc23, od23, .func (PySem.W.fnOf "_law_draw" "_law_draw" (defArgs sLDraw) (defBody sLDraw) (defScope sLDraw) .none kV23 dc23 pm23 an23 cd23 ct23), sl23⟩)
    (c23 : PySem.W.codeIn K cd23 "_law_draw" = true)
    (k23 : PySem.W.keepIn K (.ref f23) = true)
    (a24 : PySem.W.nsIn K mainGlobals "_law_pick" = some (some (.ref f24)))
    (l24 : K.lookup f24 = some ⟨oc24, od24, .func (PySem.W.fnOf "_law_pick" "_law_pick" (defArgs sLPick) (defBody sLPick) (defScope sLPick) .none kV24 dc24 pm24 an24 cd24 ct24), sl24⟩)
    (c24 : PySem.W.codeIn K cd24 "_law_pick" = true)
    (k24 : PySem.W.keepIn K (.ref f24) = true)
    (a25 : PySem.W.nsIn K mainGlobals "_law_same" = some (some (.ref f25)))
    (l25 : K.lookup f25 = some ⟨oc25, od25, .func (PySem.W.fnOf "_law_same" "_law_same" (defArgs sLSame) (defBody sLSame) (defScope sLSame) .none kV25 dc25 pm25 an25 cd25 ct25), sl25⟩)
    (c25 : PySem.W.codeIn K cd25 "_law_same" = true)
    (k25 : PySem.W.keepIn K (.ref f25) = true)
    (a26 : PySem.W.nsIn K mainGlobals "_law_effect_of" = some (some (.ref f26)))
    (l26 : K.lookup f26 = some ⟨oc26, od26, .func (PySem.W.fnOf "_law_effect_of" "_law_effect_of" (defArgs sLEffectOf) (defBody sLEffectOf) (defScope sLEffectOf) .none kV26 dc26 pm26 an26 cd26 ct26), sl26⟩)
    (c26 : PySem.W.codeIn K cd26 "_law_effect_of" = true)
    (k26 : PySem.W.keepIn K (.ref f26) = true)
    (a27 : PySem.W.nsIn K mainGlobals "_law_age_of" = some (some (.ref f27)))
    (l27 : K.lookup f27 = some ⟨oc27, od27, .func (PySem.W.fnOf "_law_age_of" "_law_age_of" (defArgs sLAgeOf) (defBody sLAgeOf) (defScope sLAgeOf) .none kV27 dc27 pm27 an27 cd27 ct27), sl27⟩)
    (c27 : PySem.W.codeIn K cd27 "_law_age_of" = true)
    (k27 : PySem.W.keepIn K (.ref f27) = true)
    (a28 : PySem.W.nsIn K mainGlobals "_law_gone" = some (some (.ref f28)))
    (l28 : K.lookup f28 = some ⟨oc28, od28, .func (PySem.W.fnOf "_law_gone" "_law_gone" (defArgs sLGone) (defBody sLGone) (defScope sLGone) .none kV28 dc28 pm28 an28 cd28 ct28), sl28⟩)
    (c28 : PySem.W.codeIn K cd28 "_law_gone" = true)
    (k28 : PySem.W.keepIn K (.ref f28) = true)
    (a29 : PySem.W.nsIn K mainGlobals "_law_standing_behind" = some (some (.ref f29)))
    (l29 : K.lookup f29 = some ⟨oc29, od29, .func (PySem.W.fnOf "_law_standing_behind" "_law_standing_behind" (defArgs sLStandingBehind) (defBody sLStandingBehind) (defScope sLStandingBehind) .none kV29 dc29 pm29 an29 cd29 ct29), sl29⟩)
    (c29 : PySem.W.codeIn K cd29 "_law_standing_behind" = true)
    (k29 : PySem.W.keepIn K (.ref f29) = true)
    (a30 : PySem.W.nsIn K mainGlobals "_law_drawn_words" = some (some (.ref f30)))
    (l30 : K.lookup f30 = some ⟨oc30, od30, .func (PySem.W.fnOf "_law_drawn_words" "_law_drawn_words" (defArgs sLDrawnWords) (defBody sLDrawnWords) (defScope sLDrawnWords) .none kV30 dc30 pm30 an30 cd30 ct30), sl30⟩)
    (c30 : PySem.W.codeIn K cd30 "_law_drawn_words" = true)
    (k30 : PySem.W.keepIn K (.ref f30) = true)
    (a31 : PySem.W.nsIn K mainGlobals "_law_random_effect" = some (some (.ref f31)))
    (l31 : K.lookup f31 = some ⟨oc31, od31, .func (PySem.W.fnOf "_law_random_effect" "_law_random_effect" (defArgs sLRandomEffect) (defBody sLRandomEffect) (defScope sLRandomEffect) .none kV31 dc31 pm31 an31 cd31 ct31), sl31⟩)
    (c31 : PySem.W.codeIn K cd31 "_law_random_effect" = true)
    (k31 : PySem.W.keepIn K (.ref f31) = true)
    (a32 : PySem.W.nsIn K mainGlobals "_law_step_menu" = some (some (.ref f32)))
    (l32 : K.lookup f32 = some ⟨oc32, od32, .func (PySem.W.fnOf "_law_step_menu" "_law_step_menu" (defArgs sLStepMenu) (defBody sLStepMenu) (defScope sLStepMenu) .none kV32 dc32 pm32 an32 cd32 ct32), sl32⟩)
    (c32 : PySem.W.codeIn K cd32 "_law_step_menu" = true)
    (k32 : PySem.W.keepIn K (.ref f32) = true)
    (a33 : PySem.W.nsIn K mainGlobals "_law_wild" = some (some (.ref f33)))
    (l33 : K.lookup f33 = some ⟨oc33, od33, .func (PySem.W.fnOf "_law_wild" "_law_wild" (defArgs sLWild) (defBody sLWild) (defScope sLWild) .none kV33 dc33 pm33 an33 cd33 ct33), sl33⟩)
    (c33 : PySem.W.codeIn K cd33 "_law_wild" = true)
    (k33 : PySem.W.keepIn K (.ref f33) = true)
    (a34 : PySem.W.nsIn K mainGlobals "_law_near" = some (some (.ref f34)))
    (l34 : K.lookup f34 = some ⟨oc34, od34, .func (PySem.W.fnOf "_law_near" "_law_near" (defArgs sLNear) (defBody sLNear) (defScope sLNear) .none kV34 dc34 pm34 an34 cd34 ct34), sl34⟩)
    (c34 : PySem.W.codeIn K cd34 "_law_near" = true)
    (k34 : PySem.W.keepIn K (.ref f34) = true)
    (a35 : PySem.W.nsIn K mainGlobals "_law_some_plan" = some (some (.ref f35)))
    (l35 : K.lookup f35 = some ⟨oc35, od35, .func (PySem.W.fnOf "_law_some_plan" "_law_some_plan" (defArgs sLSomePlan) (defBody sLSomePlan) (defScope sLSomePlan) .none kV35 dc35 pm35 an35 cd35 ct35), sl35⟩)
    (c35 : PySem.W.codeIn K cd35 "_law_some_plan" = true)
    (k35 : PySem.W.keepIn K (.ref f35) = true)
    (a36 : PySem.W.nsIn K mainGlobals "_law_book_of" = some (some (.ref f36)))
    (l36 : K.lookup f36 = some ⟨oc36, od36, .func (PySem.W.fnOf "_law_book_of" "_law_book_of" (defArgs sLBookOf) (defBody sLBookOf) (defScope sLBookOf) .none kV36 dc36 pm36 an36 cd36 ct36), sl36⟩)
    (c36 : PySem.W.codeIn K cd36 "_law_book_of" = true)
    (k36 : PySem.W.keepIn K (.ref f36) = true)
    (a37 : PySem.W.nsIn K mainGlobals "_law_some_row" = some (some (.ref f37)))
    (l37 : K.lookup f37 = some ⟨oc37, od37, .func (PySem.W.fnOf "_law_some_row" "_law_some_row" (defArgs sLSomeRow) (defBody sLSomeRow) (defScope sLSomeRow) .none kV37 dc37 pm37 an37 cd37 ct37), sl37⟩)
    (c37 : PySem.W.codeIn K cd37 "_law_some_row" = true)
    (k37 : PySem.W.keepIn K (.ref f37) = true)
    (a38 : PySem.W.nsIn K mainGlobals "_law_tried" = some (some (.ref f38)))
    (l38 : K.lookup f38 = some ⟨oc38, od38, .func (PySem.W.fnOf "_law_tried" "_law_tried" (defArgs sLTried) (defBody sLTried) (defScope sLTried) .none kV38 dc38 pm38 an38 cd38 ct38), sl38⟩)
    (c38 : PySem.W.codeIn K cd38 "_law_tried" = true)
    (k38 : PySem.W.keepIn K (.ref f38) = true)
    (a39 : PySem.W.nsIn K mainGlobals "law" = some (some (.ref f39)))
    (l39 : K.lookup f39 = some ⟨oc39, od39, .func (PySem.W.fnOf "law" "law" (defArgs sPLaw) (defBody sPLaw) (defScope sPLaw) .none kV39 dc39 pm39 an39 (.ref cdL) ct39), sl39⟩)
    (c39 : PySem.W.codeIn K (.ref cdL) "law" = true)
    (k39 : PySem.W.keepIn K (.ref f39) = true)
    (lcL : K.lookup cdL = some ⟨ccL, oL, .fields vL, slL⟩)
    (pt : vL[11]? = some (.ref Pt))
    (hdL : PySem.W.codeHdIn K cdL Pt = true)
    (ptn : K.lookup Pt = none)
    (aCB : PySem.W.nsIn K mainGlobals "Book" = some (some (.ref CB)))
    (pgB : PySem.W.plainGet K CB Str.empty = true)
    (hdB : PySem.W.hasDictIn K CB = true)
    (poB : PySem.W.plainOver K CB = true)
    (saB : PySem.W.findIn K (.ref CB) "__setattr__" = some (some (.builtin "object.__setattr__")))
    (mkB : PySem.W.makesIn K CB = true)
    (kcB : PySem.W.keepIn K (.ref CB) = true)
    (nB_states : PySem.W.findIn K (.ref CB) "_states" = some none)
    (nB_sorts : PySem.W.findIn K (.ref CB) "_sorts" = some none)
    (nB_first : PySem.W.findIn K (.ref CB) "_first" = some none)
    (nB_effects : PySem.W.findIn K (.ref CB) "_effects" = some none)
    (nB_worths : PySem.W.findIn K (.ref CB) "_worths" = some none)
    (nB_traits : PySem.W.findIn K (.ref CB) "_traits" = some none)
    (aCC : PySem.W.nsIn K mainGlobals "Course" = some (some (.ref CC)))
    (pgC : PySem.W.plainGet K CC Str.empty = true)
    (hdC : PySem.W.hasDictIn K CC = true)
    (poC : PySem.W.plainOver K CC = true)
    (saC : PySem.W.findIn K (.ref CC) "__setattr__" = some (some (.builtin "object.__setattr__")))
    (mkC : PySem.W.makesIn K CC = true)
    (kcC : PySem.W.keepIn K (.ref CC) = true)
    (nC_first : PySem.W.findIn K (.ref CC) "_first" = some none)
    (nC_sorts : PySem.W.findIn K (.ref CC) "_sorts" = some none)
    (nC_effects : PySem.W.findIn K (.ref CC) "_effects" = some none)
    (nC_moves : PySem.W.findIn K (.ref CC) "_moves" = some none)
    (a40 : PySem.W.findIn K (.ref CB) "sorts" = some (some (.ref f40)))
    (l40 : K.lookup f40 = some ⟨oc40, od40, .func (PySem.W.fnOf "sorts" "Book.sorts" (defArgs HN.sBSorts) (defBody HN.sBSorts) (defScope HN.sBSorts) .none kV40 dc40 pm40 an40 cd40 ct40), sl40⟩)
    (c40 : PySem.W.codeIn K cd40 "Book.sorts" = true)
    (k40 : PySem.W.keepIn K (.ref f40) = true)
    (i40 : PySem.W.isFn K (.ref f40) = true)
    (a41 : PySem.W.findIn K (.ref CB) "first" = some (some (.ref f41)))
    (l41 : K.lookup f41 = some ⟨oc41, od41, .func (PySem.W.fnOf "first" "Book.first" (defArgs HN.sBFirst) (defBody HN.sBFirst) (defScope HN.sBFirst) .none kV41 dc41 pm41 an41 cd41 ct41), sl41⟩)
    (c41 : PySem.W.codeIn K cd41 "Book.first" = true)
    (k41 : PySem.W.keepIn K (.ref f41) = true)
    (i41 : PySem.W.isFn K (.ref f41) = true)
    (a42 : PySem.W.findIn K (.ref CB) "table" = some (some (.ref f42)))
    (l42 : K.lookup f42 = some ⟨oc42, od42, .func (PySem.W.fnOf "table" "Book.table" (defArgs HN.sBTable) (defBody HN.sBTable) (defScope HN.sBTable) .none kV42 dc42 pm42 an42 cd42 ct42), sl42⟩)
    (c42 : PySem.W.codeIn K cd42 "Book.table" = true)
    (k42 : PySem.W.keepIn K (.ref f42) = true)
    (i42 : PySem.W.isFn K (.ref f42) = true)
    (a43 : PySem.W.findIn K (.ref CC) "moves_along" = some (some (.ref f43)))
    (l43 : K.lookup f43 = some ⟨oc43, od43, .func (PySem.W.fnOf "moves_along" "Course.moves_along" (defArgs sCMovesAlong) (defBody sCMovesAlong) (defScope sCMovesAlong) .none kV43 dc43 pm43 an43 cd43 ct43), sl43⟩)
    (c43 : PySem.W.codeIn K cd43 "Course.moves_along" = true)
    (k43 : PySem.W.keepIn K (.ref f43) = true)
    (i43 : PySem.W.isFn K (.ref f43) = true)
    (a44 : PySem.W.findIn K (.ref CB) "__init__" = some (some (.ref f44)))
    (l44 : K.lookup f44 = some ⟨oc44, od44, .func (PySem.W.fnOf "__init__" "Book.__init__" (defArgs HN.sBInit) (defBody HN.sBInit) (defScope HN.sBInit) .none (.ref DkB) dc44 pm44 an44 cd44 ct44), sl44⟩)
    (c44 : PySem.W.codeIn K cd44 "Book.__init__" = true)
    (k44 : PySem.W.keepIn K (.ref f44) = true)
    (i44 : PySem.W.isFn K (.ref f44) = true)
    (kwB : PySem.W.nsIn K DkB "worths" = some (some .none))
    (a45 : PySem.W.findIn K (.ref CC) "__init__" = some (some (.ref f45)))
    (l45 : K.lookup f45 = some ⟨oc45, od45, .func (PySem.W.fnOf "__init__" "Course.__init__" (defArgs HN.sCInit) (defBody HN.sCInit) (defScope HN.sCInit) (.ref TdC) kV45 dc45 pm45 an45 cd45 ct45), sl45⟩)
    (c45 : PySem.W.codeIn K cd45 "Course.__init__" = true)
    (k45 : PySem.W.keepIn K (.ref f45) = true)
    (i45 : PySem.W.isFn K (.ref f45) = true)
    (ldC : K.lookup TdC = some ⟨.type "tuple", oTdC, .seq #[.ref TeC] nTdC, sTdC⟩)
    (leC : K.lookup TeC = some ⟨.type "tuple", oTeC, .seq #[] nTeC, sTeC⟩)
    (mAGES : PySem.W.nsIn K mainGlobals "AGES" = some (some (.ref aAGES)))
    (lmAGES : K.lookup aAGES = some ⟨.type "tuple", oAGES, .seq #[.str "newer" tAGESx0, .str "same" tAGESx1, .str "elder" tAGESx2] nAGES, slAGES⟩)
    (mWHOLE : PySem.W.nsIn K mainGlobals "WHOLE" = some (some (.str "whole" tWHOLE)))
    (mFIRST_SPOTS : PySem.W.nsIn K mainGlobals "FIRST_SPOTS" = some (some (.ref aFIRST_SPOTS)))
    (lmFIRST_SPOTS : K.lookup aFIRST_SPOTS = some ⟨.type "tuple", oFIRST_SPOTS, .seq #[.ref aFIRST_SPOTSx0] nFIRST_SPOTS, slFIRST_SPOTS⟩)
    (lmFIRST_SPOTSx0 : K.lookup aFIRST_SPOTSx0 = some ⟨.type "tuple", oFIRST_SPOTSx0, .seq #[.str "top" tFIRST_SPOTSx0x0, .str "newer" tFIRST_SPOTSx0x1] nFIRST_SPOTSx0, slFIRST_SPOTSx0⟩)
    (mSPOTS : PySem.W.nsIn K mainGlobals "SPOTS" = some (some (.ref aSPOTS)))
    (lmSPOTS : K.lookup aSPOTS = some ⟨.type "dict", none, .dict esSPOTS nSPOTS, #[]⟩)
    (klSPOTS : PySem.W.KeysLit w.params esSPOTS.toList)
    (dSPOTS0 : PySem.W.nsIn K aSPOTS "lower" = some (some (.ref aSPOTSv0)))
    (dSPOTS1 : PySem.W.nsIn K aSPOTS "newest" = some (some (.ref aSPOTSv1)))
    (dSPOTS2 : PySem.W.nsIn K aSPOTS "none" = some (some (.ref aSPOTSv2)))
    (lmSPOTSv0 : K.lookup aSPOTSv0 = some ⟨.type "tuple", oSPOTSv0, .seq #[.ref aSPOTSv0x0, .ref aSPOTSv0x1, .ref aSPOTSv0x2, .ref aSPOTSv0x3, .ref aSPOTSv0x4] nSPOTSv0, slSPOTSv0⟩)
    (lmSPOTSv0x0 : K.lookup aSPOTSv0x0 = some ⟨.type "tuple", oSPOTSv0x0, .seq #[.str "below" tSPOTSv0x0x0, .str "elder" tSPOTSv0x0x1] nSPOTSv0x0, slSPOTSv0x0⟩)
    (lmSPOTSv0x1 : K.lookup aSPOTSv0x1 = some ⟨.type "tuple", oSPOTSv0x1, .seq #[.str "between" tSPOTSv0x1x0, .str "newer" tSPOTSv0x1x1] nSPOTSv0x1, slSPOTSv0x1⟩)
    (lmSPOTSv0x2 : K.lookup aSPOTSv0x2 = some ⟨.type "tuple", oSPOTSv0x2, .seq #[.str "held" tSPOTSv0x2x0, .str "same" tSPOTSv0x2x1] nSPOTSv0x2, slSPOTSv0x2⟩)
    (lmSPOTSv0x3 : K.lookup aSPOTSv0x3 = some ⟨.type "tuple", oSPOTSv0x3, .seq #[.str "newest" tSPOTSv0x3x0, .str "newer" tSPOTSv0x3x1] nSPOTSv0x3, slSPOTSv0x3⟩)
    (lmSPOTSv0x4 : K.lookup aSPOTSv0x4 = some ⟨.type "tuple", oSPOTSv0x4, .seq #[.str "top" tSPOTSv0x4x0, .str "newer" tSPOTSv0x4x1] nSPOTSv0x4, slSPOTSv0x4⟩)
    (lmSPOTSv1 : K.lookup aSPOTSv1 = some ⟨.type "tuple", oSPOTSv1, .seq #[.ref aSPOTSv1x0, .ref aSPOTSv1x1, .ref aSPOTSv1x2] nSPOTSv1, slSPOTSv1⟩)
    (lmSPOTSv1x0 : K.lookup aSPOTSv1x0 = some ⟨.type "tuple", oSPOTSv1x0, .seq #[.str "below" tSPOTSv1x0x0, .str "elder" tSPOTSv1x0x1] nSPOTSv1x0, slSPOTSv1x0⟩)
    (lmSPOTSv1x1 : K.lookup aSPOTSv1x1 = some ⟨.type "tuple", oSPOTSv1x1, .seq #[.str "newest" tSPOTSv1x1x0, .str "same" tSPOTSv1x1x1] nSPOTSv1x1, slSPOTSv1x1⟩)
    (lmSPOTSv1x2 : K.lookup aSPOTSv1x2 = some ⟨.type "tuple", oSPOTSv1x2, .seq #[.str "top" tSPOTSv1x2x0, .str "newer" tSPOTSv1x2x1] nSPOTSv1x2, slSPOTSv1x2⟩)
    (lmSPOTSv2 : K.lookup aSPOTSv2 = some ⟨.type "tuple", oSPOTSv2, .seq #[.ref aSPOTSv2x0, .ref aSPOTSv2x1, .ref aSPOTSv2x2] nSPOTSv2, slSPOTSv2⟩)
    (lmSPOTSv2x0 : K.lookup aSPOTSv2x0 = some ⟨.type "tuple", oSPOTSv2x0, .seq #[.str "between" tSPOTSv2x0x0, .str "newer" tSPOTSv2x0x1] nSPOTSv2x0, slSPOTSv2x0⟩)
    (lmSPOTSv2x1 : K.lookup aSPOTSv2x1 = some ⟨.type "tuple", oSPOTSv2x1, .seq #[.str "newest" tSPOTSv2x1x0, .str "newer" tSPOTSv2x1x1] nSPOTSv2x1, slSPOTSv2x1⟩)
    (lmSPOTSv2x2 : K.lookup aSPOTSv2x2 = some ⟨.type "tuple", oSPOTSv2x2, .seq #[.str "top" tSPOTSv2x2x0, .str "newer" tSPOTSv2x2x1] nSPOTSv2x2, slSPOTSv2x2⟩)
    (hTab : h.get? Pt = some { cls := .none, data := .fields #[] }) : LamX.LawAtS l w K CX0 9 63 "_law_script" mg fa h := by
  have e := hfa.symm.trans (PySem.W.mg_of X G a39)
  cases e
  have T : Txt K mg := { str := PySem.W.mg_none_of X G z_str, dict := PySem.W.mg_none_of X G z_dict, set := PySem.W.mg_none_of X G z_set, sorted := PySem.W.mg_none_of X G z_sorted, range := PySem.W.mg_none_of X G z_range, min := PySem.W.mg_none_of X G z_min, max := PySem.W.mg_none_of X G z_max, sum := PySem.W.mg_none_of X G z_sum, len := PySem.W.mg_none_of X G z_len, int := PySem.W.mg_none_of X G z_int, isi := PySem.W.mg_none_of X G z_isinstance, all := PySem.W.mg_none_of X G z_all, any := PySem.W.mg_none_of X G z_any, zip := PySem.W.mg_none_of X G z_zip, enumerate := PySem.W.mg_none_of X G z_enumerate, list := PySem.W.mg_none_of X G z_list, tuple := PySem.W.mg_none_of X G z_tuple, bool := PySem.W.mg_none_of X G z_bool, repr := PySem.W.mg_none_of X G z_repr }
  have TH : HN.Txt K mg := { str := T.str, dict := T.dict, set := T.set, sorted := T.sorted, range := T.range, min := T.min, sum := T.sum, len := T.len, int := T.int, isi := T.isi, all := T.all, zip := T.zip, list := T.list, tuple := T.tuple, bool := T.bool }
  have oEL : OexC K CEL := ⟨⟨_, _, _, _, _, _, _, _, _, _, _, _, _, _, _, xEL, rEL⟩, saEL, eEL, tEL, kEL⟩
  have uEL : ∃ cd, PySem.W.clsIn K CEL = some cd := ⟨_, by unfold PySem.W.clsIn; rw [xEL] <;> rfl⟩
  have REL : HN.ErrC l.prog K mg "BadLetter" "BadLetter.__init__" "index" "index" CEL fEL _ := ⟨PySem.W.mg_of X G aEL, ⟨oEL, uEL, suEL, alEL, veEL, opS, noEL, topS, PySem.W.mg_none_of X G z_super⟩, ⟨⟨_, _, _, _, _, _, _, _, _, _, _, _, _, _, _, _, _, _, _, _, _, _, _, _, _, _, _, _, _, _, _, _, _, _, _, rfl, rfl, rfl, lEL, cEL, qaEL, qbEL, qcEL, qdEL, rfl, rfl, rfl, rfl, rfl, by decide +kernel, by decide +kernel, rfl, rfl, rfl, rfl⟩⟩, iEL, tiEL, .all (fun us hl => match us, hl with | [_, _], _ => rfl), ⟨gaEL, ggEL, eEL, hdEL⟩⟩
  have F1 := fun_mk (st := sPIsList) l1 c1 k1
  have DPIsList : Def K mg "is_list" sPIsList ["thing"] f1 _ := ⟨F1, PySem.W.mg_of X G a1, F1.binds (ps := ["thing"]) fun _ _ _ _ _ _ us hl => match us, hl with | [_], _ => rfl⟩
  have HIsList : HN.Def K mg "is_list" HN.sIsList ["thing"] f1 _ := ⟨DPIsList.F, DPIsList.m, DPIsList.b⟩
  have F2 := fun_mk (st := sPIsInt) l2 c2 k2
  have DPIsInt : Def K mg "is_int" sPIsInt ["thing"] f2 _ := ⟨F2, PySem.W.mg_of X G a2, F2.binds (ps := ["thing"]) fun _ _ _ _ _ _ us hl => match us, hl with | [_], _ => rfl⟩
  have HIsInt : HN.Def K mg "is_int" HN.sIsInt ["thing"] f2 _ := ⟨DPIsInt.F, DPIsInt.m, DPIsInt.b⟩
  have F3 := fun_mk (st := sPIsIntWithin) l3 c3 k3
  have DPIsIntWithin : Def K mg "is_int_within" sPIsIntWithin ["thing", "least", "greatest"] f3 _ := ⟨F3, PySem.W.mg_of X G a3, F3.binds (ps := ["thing", "least", "greatest"]) fun _ _ _ _ _ _ us hl => match us, hl with | [_, _, _], _ => rfl⟩
  have HIsIntWithin : HN.Def K mg "is_int_within" HN.sIsIntWithin ["thing", "least", "greatest"] f3 _ := ⟨DPIsIntWithin.F, DPIsIntWithin.m, DPIsIntWithin.b⟩
  have F4 := fun_mk (st := sPIsWord) l4 c4 k4
  have DPIsWord : Def K mg "is_word" sPIsWord ["thing"] f4 _ := ⟨F4, PySem.W.mg_of X G a4, F4.binds (ps := ["thing"]) fun _ _ _ _ _ _ us hl => match us, hl with | [_], _ => rfl⟩
  have HIsWord : HN.Def K mg "is_word" HN.sIsWord ["thing"] f4 _ := ⟨DPIsWord.F, DPIsWord.m, DPIsWord.b⟩
  have F5 := fun_mk (st := sPIsWordList) l5 c5 k5
  have DPIsWordList : Def K mg "is_word_list" sPIsWordList ["thing", "most"] f5 _ := ⟨F5, PySem.W.mg_of X G a5, F5.binds (ps := ["thing", "most"]) fun _ _ _ _ _ _ us hl => match us, hl with | [_, _], _ => rfl⟩
  have HIsWordList : HN.Def K mg "is_word_list" HN.sIsWordList ["thing", "most"] f5 _ := ⟨DPIsWordList.F, DPIsWordList.m, DPIsWordList.b⟩
  have F6 := fun_mk (st := sPIdleEffect) l6 c6 k6
  have DPIdleEffect : Def K mg "idle_effect" sPIdleEffect ["state"] f6 _ := ⟨F6, PySem.W.mg_of X G a6, F6.binds (ps := ["state"]) fun _ _ _ _ _ _ us hl => match us, hl with | [_], _ => rfl⟩
  have HIdleEffect : HN.Def K mg "idle_effect" HN.sIdle ["state"] f6 _ := ⟨DPIdleEffect.F, DPIdleEffect.m, DPIdleEffect.b⟩
  have F7 := fun_mk (st := sPIsKey) l7 c7 k7
  have DPIsKey : Def K mg "is_key" sPIsKey ["thing", "states", "sorts"] f7 _ := ⟨F7, PySem.W.mg_of X G a7, F7.binds (ps := ["thing", "states", "sorts"]) fun _ _ _ _ _ _ us hl => match us, hl with | [_, _, _], _ => rfl⟩
  have HIsKey : HN.Def K mg "is_key" HN.sIsKey ["thing", "states", "sorts"] f7 _ := ⟨DPIsKey.F, DPIsKey.m, DPIsKey.b⟩
  have F8 := fun_mk (st := sPIsStep) l8 c8 k8
  have DPIsStep : Def K mg "is_step" sPIsStep ["thing"] f8 _ := ⟨F8, PySem.W.mg_of X G a8, F8.binds (ps := ["thing"]) fun _ _ _ _ _ _ us hl => match us, hl with | [_], _ => rfl⟩
  have HIsStep : HN.Def K mg "is_step" HN.sIsStep ["thing"] f8 _ := ⟨DPIsStep.F, DPIsStep.m, DPIsStep.b⟩
  have F9 := fun_mk (st := sPIsEffect) l9 c9 k9
  have DPIsEffect : Def K mg "is_effect" sPIsEffect ["thing", "states"] f9 _ := ⟨F9, PySem.W.mg_of X G a9, F9.binds (ps := ["thing", "states"]) fun _ _ _ _ _ _ us hl => match us, hl with | [_, _], _ => rfl⟩
  have HIsEffect : HN.Def K mg "is_effect" HN.sIsEffect ["thing", "states"] f9 _ := ⟨DPIsEffect.F, DPIsEffect.m, DPIsEffect.b⟩
  have F10 := fun_mk (st := sPToldEffects) l10 c10 k10
  have DPToldEffects : Def K mg "told_effects" sPToldEffects ["rows", "states", "sorts"] f10 _ := ⟨F10, PySem.W.mg_of X G a10, F10.binds (ps := ["rows", "states", "sorts"]) fun _ _ _ _ _ _ us hl => match us, hl with | [_, _, _], _ => rfl⟩
  have HToldEffects : HN.Def K mg "told_effects" HN.sToldEffects ["rows", "states", "sorts"] f10 _ := ⟨DPToldEffects.F, DPToldEffects.m, DPToldEffects.b⟩
  have F11 := fun_mk (st := sPToldWorths) l11 c11 k11
  have DPToldWorths : Def K mg "told_worths" sPToldWorths ["worths", "states"] f11 _ := ⟨F11, PySem.W.mg_of X G a11, F11.binds (ps := ["worths", "states"]) fun _ _ _ _ _ _ us hl => match us, hl with | [_, _], _ => rfl⟩
  have HToldWorths : HN.Def K mg "told_worths" HN.sToldWorths ["worths", "states"] f11 _ := ⟨DPToldWorths.F, DPToldWorths.m, DPToldWorths.b⟩
  have F12 := fun_mk (st := sPIsLetter) l12 c12 k12
  have DPIsLetter : Def K mg "is_letter" sPIsLetter ["thing", "sorts"] f12 _ := ⟨F12, PySem.W.mg_of X G a12, F12.binds (ps := ["thing", "sorts"]) fun _ _ _ _ _ _ us hl => match us, hl with | [_, _], _ => rfl⟩
  have F13 := fun_mk (st := sPBadIndex) l13 c13 k13
  have DPBadIndex : Def K mg "bad_index" sPBadIndex ["thing", "sorts"] f13 _ := ⟨F13, PySem.W.mg_of X G a13, F13.binds (ps := ["thing", "sorts"]) fun _ _ _ _ _ _ us hl => match us, hl with | [_, _], _ => rfl⟩
  have F14 := fun_mk (st := sPFirstStanding) l14 c14 k14
  have DPFirstStanding : Def K mg "first_standing" sPFirstStanding ["book"] f14 _ := ⟨F14, PySem.W.mg_of X G a14, F14.binds (ps := ["book"]) fun _ _ _ _ _ _ us hl => match us, hl with | [_], _ => rfl⟩
  have HFirstStanding : HN.Def K mg "first_standing" HN.sFirstStanding ["book"] f14 _ := ⟨DPFirstStanding.F, DPFirstStanding.m, DPFirstStanding.b⟩
  have F15 := fun_mk (st := sPSpotsAt) l15 c15 k15
  have DPSpotsAt : Def K mg "spots_at" sPSpotsAt ["standing"] f15 _ := ⟨F15, PySem.W.mg_of X G a15, F15.binds (ps := ["standing"]) fun _ _ _ _ _ _ us hl => match us, hl with | [_], _ => rfl⟩
  have F16 := fun_mk (st := sPSpotOf) l16 c16 k16
  have DPSpotOf : Def K mg "spot_of" sPSpotOf ["number", "newest", "held"] f16 _ := ⟨F16, PySem.W.mg_of X G a16, F16.binds (ps := ["number", "newest", "held"]) fun _ _ _ _ _ _ us hl => match us, hl with | [_, _, _], _ => rfl⟩
  have F17 := fun_mk (st := sPKeyAt) l17 c17 k17
  have DPKeyAt : Def K mg "key_at" sPKeyAt ["standing", "spot", "sort"] f17 _ := ⟨F17, PySem.W.mg_of X G a17, F17.binds (ps := ["standing", "spot", "sort"]) fun _ _ _ _ _ _ us hl => match us, hl with | [_, _, _], _ => rfl⟩
  have F18 := fun_mk (st := sPStandingBehind) l18 c18 k18
  have DPStandingBehind : Def K mg "standing_behind" sPStandingBehind ["standing", "spot", "sort", "effect"] f18 _ := ⟨F18, PySem.W.mg_of X G a18, F18.binds (ps := ["standing", "spot", "sort", "effect"]) fun _ _ _ _ _ _ us hl => match us, hl with | [_, _, _, _], _ => rfl⟩
  have F19 := fun_mk (st := sPMoveBy) l19 c19 k19
  have DPMoveBy : Def K mg "move_by" sPMoveBy ["standing", "spot", "sort", "effect"] f19 _ := ⟨F19, PySem.W.mg_of X G a19, F19.binds (ps := ["standing", "spot", "sort", "effect"]) fun _ _ _ _ _ _ us hl => match us, hl with | [_, _, _, _], _ => rfl⟩
  have F20 := fun_mk (st := sPCheckRow) l20 c20 k20
  have DPCheckRow : Def K mg "check_row" sPCheckRow ["book", "thing"] f20 _ := ⟨F20, PySem.W.mg_of X G a20, F20.binds (ps := ["book", "thing"]) fun _ _ _ _ _ _ us hl => match us, hl with | [_, _], _ => rfl⟩
  have F21 := fun_mk (st := sPStandingOf) l21 c21 k21
  have DPStandingOf : Def K mg "standing_of" sPStandingOf ["book", "row"] f21 _ := ⟨F21, PySem.W.mg_of X G a21, F21.binds (ps := ["book", "row"]) fun _ _ _ _ _ _ us hl => match us, hl with | [_, _], _ => rfl⟩
  have F22 := fun_mk (st := sLSource) l22 c22 k22
  have DLSource : Def K mg "_law_source" sLSource ["_law_script", "_law_place"] f22 _ := ⟨F22, PySem.W.mg_of X G a22, F22.binds (ps := ["_law_script", "_law_place"]) fun _ _ _ _ _ _ us hl => match us, hl with | [_, _], _ => rfl⟩
  have F23 := fun_mk (st := sLDraw) l23 c23 k23
  have DLDraw : Def K mg "_law_draw" sLDraw ["_law_draws", "_law_many"] f23 _ := ⟨F23, PySem.W.mg_of X G a23, F23.binds (ps := ["_law_draws", "_law_many"]) fun _ _ _ _ _ _ us hl => match us, hl with | [_, _], _ => rfl⟩
  have HDraw : HN.Def K mg "_law_draw" HN.sDraw ["_law_draws", "_law_many"] f23 _ := ⟨DLDraw.F, DLDraw.m, DLDraw.b⟩
  have F24 := fun_mk (st := sLPick) l24 c24 k24
  have DLPick : Def K mg "_law_pick" sLPick ["_law_draws", "_law_xs"] f24 _ := ⟨F24, PySem.W.mg_of X G a24, F24.binds (ps := ["_law_draws", "_law_xs"]) fun _ _ _ _ _ _ us hl => match us, hl with | [_, _], _ => rfl⟩
  have HPick : HN.Def K mg "_law_pick" HN.sPick ["_law_draws", "_law_xs"] f24 _ := ⟨DLPick.F, DLPick.m, DLPick.b⟩
  have F25 := fun_mk (st := sLSame) l25 c25 k25
  have DLSame : Def K mg "_law_same" sLSame ["_law_found", "_law_due"] f25 _ := ⟨F25, PySem.W.mg_of X G a25, F25.binds (ps := ["_law_found", "_law_due"]) fun _ _ _ _ _ _ us hl => match us, hl with | [_, _], _ => rfl⟩
  have F26 := fun_mk (st := sLEffectOf) l26 c26 k26
  have DLEffectOf : Def K mg "_law_effect_of" sLEffectOf ["_law_plan", "_law_state", "_law_sort", "_law_age"] f26 _ := ⟨F26, PySem.W.mg_of X G a26, F26.binds (ps := ["_law_plan", "_law_state", "_law_sort", "_law_age"]) fun _ _ _ _ _ _ us hl => match us, hl with | [_, _, _, _], _ => rfl⟩
  have F27 := fun_mk (st := sLAgeOf) l27 c27 k27
  have DLAgeOf : Def K mg "_law_age_of" sLAgeOf ["_law_number", "_law_held"] f27 _ := ⟨F27, PySem.W.mg_of X G a27, F27.binds (ps := ["_law_number", "_law_held"]) fun _ _ _ _ _ _ us hl => match us, hl with | [_, _], _ => rfl⟩
  have F28 := fun_mk (st := sLGone) l28 c28 k28
  have DLGone : Def K mg "_law_gone" sLGone ["_law_plan", "_law_row"] f28 _ := ⟨F28, PySem.W.mg_of X G a28, F28.binds (ps := ["_law_plan", "_law_row"]) fun _ _ _ _ _ _ us hl => match us, hl with | [_, _], _ => rfl⟩
  have F29 := fun_mk (st := sLStandingBehind) l29 c29 k29
  have DLStandingBehind : Def K mg "_law_standing_behind" sLStandingBehind ["_law_plan", "_law_row"] f29 _ := ⟨F29, PySem.W.mg_of X G a29, F29.binds (ps := ["_law_plan", "_law_row"]) fun _ _ _ _ _ _ us hl => match us, hl with | [_, _], _ => rfl⟩
  have F30 := fun_mk (st := sLDrawnWords) l30 c30 k30
  have DLDrawnWords : Def K mg "_law_drawn_words" sLDrawnWords ["_law_draws", "_law_many"] f30 _ := ⟨F30, PySem.W.mg_of X G a30, F30.binds (ps := ["_law_draws", "_law_many"]) fun _ _ _ _ _ _ us hl => match us, hl with | [_, _], _ => rfl⟩
  have HDrawnWords : HN.Def K mg "_law_drawn_words" HN.sWords ["_law_draws", "_law_many"] f30 _ := ⟨DLDrawnWords.F, DLDrawnWords.m, DLDrawnWords.b⟩
  have F31 := fun_mk (st := sLRandomEffect) l31 c31 k31
  have DLRandomEffect : Def K mg "_law_random_effect" sLRandomEffect ["_law_draws", "_law_states", "_law_steps"] f31 _ := ⟨F31, PySem.W.mg_of X G a31, F31.binds (ps := ["_law_draws", "_law_states", "_law_steps"]) fun _ _ _ _ _ _ us hl => match us, hl with | [_, _, _], _ => rfl⟩
  have HRandomEffect : HN.Def K mg "_law_random_effect" HN.sEffect ["_law_draws", "_law_states", "_law_steps"] f31 _ := ⟨DLRandomEffect.F, DLRandomEffect.m, DLRandomEffect.b⟩
  have F32 := fun_mk (st := sLStepMenu) l32 c32 k32
  have DLStepMenu : Def K mg "_law_step_menu" sLStepMenu ["_law_draws"] f32 _ := ⟨F32, PySem.W.mg_of X G a32, F32.binds (ps := ["_law_draws"]) fun _ _ _ _ _ _ us hl => match us, hl with | [_], _ => rfl⟩
  have HStepMenu : HN.Def K mg "_law_step_menu" HN.sSteps ["_law_draws"] f32 _ := ⟨DLStepMenu.F, DLStepMenu.m, DLStepMenu.b⟩
  have F33 := fun_mk (st := sLWild) l33 c33 k33
  have DLWild : Def K mg "_law_wild" sLWild ["_law_draws"] f33 _ := ⟨F33, PySem.W.mg_of X G a33, F33.binds (ps := ["_law_draws"]) fun _ _ _ _ _ _ us hl => match us, hl with | [_], _ => rfl⟩
  have HWild : HN.Def K mg "_law_wild" HN.sWild ["_law_draws"] f33 _ := ⟨DLWild.F, DLWild.m, DLWild.b⟩
  have F34 := fun_mk (st := sLNear) l34 c34 k34
  have DLNear : Def K mg "_law_near" sLNear ["_law_draws"] f34 _ := ⟨F34, PySem.W.mg_of X G a34, F34.binds (ps := ["_law_draws"]) fun _ _ _ _ _ _ us hl => match us, hl with | [_], _ => rfl⟩
  have HNear : HN.Def K mg "_law_near" HN.sNear ["_law_draws"] f34 _ := ⟨DLNear.F, DLNear.m, DLNear.b⟩
  have F35 := fun_mk (st := sLSomePlan) l35 c35 k35
  have DLSomePlan : Def K mg "_law_some_plan" sLSomePlan ["_law_draws"] f35 _ := ⟨F35, PySem.W.mg_of X G a35, F35.binds (ps := ["_law_draws"]) fun _ _ _ _ _ _ us hl => match us, hl with | [_], _ => rfl⟩
  have HSomePlan : HN.Def K mg "_law_some_plan" HN.sPlan ["_law_draws"] f35 _ := ⟨DLSomePlan.F, DLSomePlan.m, DLSomePlan.b⟩
  have F36 := fun_mk (st := sLBookOf) l36 c36 k36
  have DLBookOf : Def K mg "_law_book_of" sLBookOf ["_law_plan"] f36 _ := ⟨F36, PySem.W.mg_of X G a36, F36.binds (ps := ["_law_plan"]) fun _ _ _ _ _ _ us hl => match us, hl with | [_], _ => rfl⟩
  have F37 := fun_mk (st := sLSomeRow) l37 c37 k37
  have DLSomeRow : Def K mg "_law_some_row" sLSomeRow ["_law_draws", "_law_plan", "_law_most", "_law_wide"] f37 _ := ⟨F37, PySem.W.mg_of X G a37, F37.binds (ps := ["_law_draws", "_law_plan", "_law_most", "_law_wide"]) fun _ _ _ _ _ _ us hl => match us, hl with | [_, _, _, _], _ => rfl⟩
  have F38 := fun_mk (st := sLTried) l38 c38 k38
  have DLTried : Def K mg "_law_tried" sLTried ["_law_work"] f38 _ := ⟨F38, PySem.W.mg_of X G a38, F38.binds (ps := ["_law_work"]) fun _ _ _ _ _ _ us hl => match us, hl with | [_], _ => rfl⟩
  have HTried : HN.Def K mg "_law_tried" HN.sLTried ["_law_work"] f38 _ := ⟨DLTried.F, DLTried.m, DLTried.b⟩
  have FL : HN.FunC K "law" "law" sPLaw fa _ cdL := ⟨⟨_, _, _, _, _, _, _, _, rfl, l39, c39⟩, k39⟩
  have clB : Cls K CB := ⟨pgB, hdB, poB, saB⟩
  have mgB := PySem.W.mg_of X G aCB
  have BC : HN.BookC K mg CB := ⟨clB, nB_states, nB_sorts, nB_first, nB_effects, nB_worths, nB_traits, mgB⟩
  have clC : Cls K CC := ⟨pgC, hdC, poC, saC⟩
  have mgC := PySem.W.mg_of X G aCC
  have CoC : HN.CourseC K CC := ⟨clC, nC_first, nC_sorts, nC_effects, nC_moves⟩
  have F40 := fun_mk (st := HN.sBSorts) l40 c40 k40
  have bB_sorts := F40.binds (ps := ["self"]) fun _ _ _ _ _ _ us hl => match us, hl with | [_], _ => rfl
  have MB_sorts : Meth K CB "sorts" f40 := ⟨a40, i40, k40⟩
  have FB_sorts := F40
  have F41 := fun_mk (st := HN.sBFirst) l41 c41 k41
  have bB_first := F41.binds (ps := ["self"]) fun _ _ _ _ _ _ us hl => match us, hl with | [_], _ => rfl
  have MB_first : Meth K CB "first" f41 := ⟨a41, i41, k41⟩
  have FB_first := F41
  have F42 := fun_mk (st := HN.sBTable) l42 c42 k42
  have bB_table := F42.binds (ps := ["self"]) fun _ _ _ _ _ _ us hl => match us, hl with | [_], _ => rfl
  have MB_table : Meth K CB "table" f42 := ⟨a42, i42, k42⟩
  have FB_table := F42
  have F43 := fun_mk (st := sCMovesAlong) l43 c43 k43
  have bC_moves_along := F43.binds (ps := ["self", "row"]) fun _ _ _ _ _ _ us hl => match us, hl with | [_, _], _ => rfl
  have MC_moves_along : Meth K CC "moves_along" f43 := ⟨a43, i43, k43⟩
  have FC_moves_along := F43
  have FDB : FunD K "__init__" "Book.__init__" (defArgs HN.sBInit) (defBody HN.sBInit) (defScope HN.sBInit) [] [("worths", .non)] f44 _ := ⟨⟨_, _, _, _, _, _, _, _, _, _, rfl, l44, c44, .inl ⟨rfl, rfl⟩, .inr ⟨DkB, rfl, fun p hp => by
    rw [List.mem_singleton] at hp
    subst hp
    exact ⟨_, kwB, rfl⟩⟩⟩, k44⟩
  have MKB : Mk K CB f44 := ⟨mkB, a44, i44, kcB⟩
  have he0C : ∀ H, SqT K H TeC [] := fun H => .inr ⟨_, _, _, leC, rfl, rfl, (by show 0 ≤ sizeLine; decide), .nil⟩
  have FDC : FunD K "__init__" "Course.__init__" (defArgs HN.sCInit) (defBody HN.sCInit) (defScope HN.sCInit) [.ref TeC] [] f45 _ := ⟨⟨_, _, _, _, _, _, _, _, _, _, rfl, l45, c45, .inr ⟨by simp, TdC, _, [.ref TeC], _, rfl, ldC, rfl, .cons rfl .nil⟩, .inl rfl⟩, k45⟩
  have MKC : Mk K CC f45 := ⟨mkC, a45, i45, kcC⟩
  have qAGES : ∀ V, Dq K V (.ref aAGES) (.tuple [.str "newer", .str "same", .str "elder"]) := fun V => .tup (.inr ⟨_, _, _, lmAGES, rfl, rfl, (by show 3 ≤ sizeLine; decide), (show Vals [L2.V.str "newer", L2.V.str "same", L2.V.str "elder"] _ from (.cons ⟨_, rfl⟩ (.cons ⟨_, rfl⟩ (.cons ⟨_, rfl⟩ .nil))))⟩) (.cons (.str _) (.cons (.str _) (.cons (.str _) .nil)))
  have M_AGES : ModC K mg "AGES" ((.tuple [.str "newer", .str "same", .str "elder"])) (.ref aAGES) (.ref aAGES) := ⟨PySem.W.mg_of X G mAGES, rfl, fun V => qAGES V⟩
  have M_WHOLE : ModC K mg "WHOLE" (.str "whole") (L2.V.str "whole") (.str "whole" tWHOLE) := ⟨PySem.W.mg_of X G mWHOLE, ⟨_, rfl⟩, fun _ => .str _⟩
  have qFIRST_SPOTSx0 : ∀ V, Dq K V (.ref aFIRST_SPOTSx0) (.tuple [.str "top", .str "newer"]) := fun V => .tup (.inr ⟨_, _, _, lmFIRST_SPOTSx0, rfl, rfl, (by show 2 ≤ sizeLine; decide), (show Vals [L2.V.str "top", L2.V.str "newer"] _ from (.cons ⟨_, rfl⟩ (.cons ⟨_, rfl⟩ .nil)))⟩) (.cons (.str _) (.cons (.str _) .nil))
  have qFIRST_SPOTS : ∀ V, Dq K V (.ref aFIRST_SPOTS) (.tuple [(.tuple [.str "top", .str "newer"])]) := fun V => .tup (.inr ⟨_, _, _, lmFIRST_SPOTS, rfl, rfl, (by show 1 ≤ sizeLine; decide), (show Vals [L2.V.ref aFIRST_SPOTSx0] _ from (.cons rfl .nil))⟩) (.cons (qFIRST_SPOTSx0 _) .nil)
  have M_FIRST_SPOTS : ModC K mg "FIRST_SPOTS" (sprD firstSp) (.ref aFIRST_SPOTS) (.ref aFIRST_SPOTS) := ⟨PySem.W.mg_of X G mFIRST_SPOTS, rfl, fun V => qFIRST_SPOTS V⟩
  have Cn : HN.Cons K mg := ⟨⟨aAGES, PySem.W.mg_of X G mAGES, fun H => .inr ⟨_, _, _, lmAGES, rfl, rfl, (by show 3 ≤ sizeLine; decide), .cons ⟨_, rfl⟩ (.cons ⟨_, rfl⟩ (.cons ⟨_, rfl⟩ .nil))⟩⟩, ⟨_, PySem.W.mg_of X G mWHOLE⟩⟩
  have qSPOTSv0x0 : ∀ V, Dq K V (.ref aSPOTSv0x0) (.tuple [.str "below", .str "elder"]) := fun V => .tup (.inr ⟨_, _, _, lmSPOTSv0x0, rfl, rfl, (by show 2 ≤ sizeLine; decide), (show Vals [L2.V.str "below", L2.V.str "elder"] _ from (.cons ⟨_, rfl⟩ (.cons ⟨_, rfl⟩ .nil)))⟩) (.cons (.str _) (.cons (.str _) .nil))
  have qSPOTSv0x1 : ∀ V, Dq K V (.ref aSPOTSv0x1) (.tuple [.str "between", .str "newer"]) := fun V => .tup (.inr ⟨_, _, _, lmSPOTSv0x1, rfl, rfl, (by show 2 ≤ sizeLine; decide), (show Vals [L2.V.str "between", L2.V.str "newer"] _ from (.cons ⟨_, rfl⟩ (.cons ⟨_, rfl⟩ .nil)))⟩) (.cons (.str _) (.cons (.str _) .nil))
  have qSPOTSv0x2 : ∀ V, Dq K V (.ref aSPOTSv0x2) (.tuple [.str "held", .str "same"]) := fun V => .tup (.inr ⟨_, _, _, lmSPOTSv0x2, rfl, rfl, (by show 2 ≤ sizeLine; decide), (show Vals [L2.V.str "held", L2.V.str "same"] _ from (.cons ⟨_, rfl⟩ (.cons ⟨_, rfl⟩ .nil)))⟩) (.cons (.str _) (.cons (.str _) .nil))
  have qSPOTSv0x3 : ∀ V, Dq K V (.ref aSPOTSv0x3) (.tuple [.str "newest", .str "newer"]) := fun V => .tup (.inr ⟨_, _, _, lmSPOTSv0x3, rfl, rfl, (by show 2 ≤ sizeLine; decide), (show Vals [L2.V.str "newest", L2.V.str "newer"] _ from (.cons ⟨_, rfl⟩ (.cons ⟨_, rfl⟩ .nil)))⟩) (.cons (.str _) (.cons (.str _) .nil))
  have qSPOTSv0x4 : ∀ V, Dq K V (.ref aSPOTSv0x4) (.tuple [.str "top", .str "newer"]) := fun V => .tup (.inr ⟨_, _, _, lmSPOTSv0x4, rfl, rfl, (by show 2 ≤ sizeLine; decide), (show Vals [L2.V.str "top", L2.V.str "newer"] _ from (.cons ⟨_, rfl⟩ (.cons ⟨_, rfl⟩ .nil)))⟩) (.cons (.str _) (.cons (.str _) .nil))
  have qSPOTSv0 : ∀ V, Dq K V (.ref aSPOTSv0) (.tuple [(.tuple [.str "below", .str "elder"]), (.tuple [.str "between", .str "newer"]), (.tuple [.str "held", .str "same"]), (.tuple [.str "newest", .str "newer"]), (.tuple [.str "top", .str "newer"])]) := fun V => .tup (.inr ⟨_, _, _, lmSPOTSv0, rfl, rfl, (by show 5 ≤ sizeLine; decide), (show Vals [L2.V.ref aSPOTSv0x0, L2.V.ref aSPOTSv0x1, L2.V.ref aSPOTSv0x2, L2.V.ref aSPOTSv0x3, L2.V.ref aSPOTSv0x4] _ from (.cons rfl (.cons rfl (.cons rfl (.cons rfl (.cons rfl .nil))))))⟩) (.cons (qSPOTSv0x0 _) (.cons (qSPOTSv0x1 _) (.cons (qSPOTSv0x2 _) (.cons (qSPOTSv0x3 _) (.cons (qSPOTSv0x4 _) .nil)))))
  have qSPOTSv1x0 : ∀ V, Dq K V (.ref aSPOTSv1x0) (.tuple [.str "below", .str "elder"]) := fun V => .tup (.inr ⟨_, _, _, lmSPOTSv1x0, rfl, rfl, (by show 2 ≤ sizeLine; decide), (show Vals [L2.V.str "below", L2.V.str "elder"] _ from (.cons ⟨_, rfl⟩ (.cons ⟨_, rfl⟩ .nil)))⟩) (.cons (.str _) (.cons (.str _) .nil))
  have qSPOTSv1x1 : ∀ V, Dq K V (.ref aSPOTSv1x1) (.tuple [.str "newest", .str "same"]) := fun V => .tup (.inr ⟨_, _, _, lmSPOTSv1x1, rfl, rfl, (by show 2 ≤ sizeLine; decide), (show Vals [L2.V.str "newest", L2.V.str "same"] _ from (.cons ⟨_, rfl⟩ (.cons ⟨_, rfl⟩ .nil)))⟩) (.cons (.str _) (.cons (.str _) .nil))
  have qSPOTSv1x2 : ∀ V, Dq K V (.ref aSPOTSv1x2) (.tuple [.str "top", .str "newer"]) := fun V => .tup (.inr ⟨_, _, _, lmSPOTSv1x2, rfl, rfl, (by show 2 ≤ sizeLine; decide), (show Vals [L2.V.str "top", L2.V.str "newer"] _ from (.cons ⟨_, rfl⟩ (.cons ⟨_, rfl⟩ .nil)))⟩) (.cons (.str _) (.cons (.str _) .nil))
  have qSPOTSv1 : ∀ V, Dq K V (.ref aSPOTSv1) (.tuple [(.tuple [.str "below", .str "elder"]), (.tuple [.str "newest", .str "same"]), (.tuple [.str "top", .str "newer"])]) := fun V => .tup (.inr ⟨_, _, _, lmSPOTSv1, rfl, rfl, (by show 3 ≤ sizeLine; decide), (show Vals [L2.V.ref aSPOTSv1x0, L2.V.ref aSPOTSv1x1, L2.V.ref aSPOTSv1x2] _ from (.cons rfl (.cons rfl (.cons rfl .nil))))⟩) (.cons (qSPOTSv1x0 _) (.cons (qSPOTSv1x1 _) (.cons (qSPOTSv1x2 _) .nil)))
  have qSPOTSv2x0 : ∀ V, Dq K V (.ref aSPOTSv2x0) (.tuple [.str "between", .str "newer"]) := fun V => .tup (.inr ⟨_, _, _, lmSPOTSv2x0, rfl, rfl, (by show 2 ≤ sizeLine; decide), (show Vals [L2.V.str "between", L2.V.str "newer"] _ from (.cons ⟨_, rfl⟩ (.cons ⟨_, rfl⟩ .nil)))⟩) (.cons (.str _) (.cons (.str _) .nil))
  have qSPOTSv2x1 : ∀ V, Dq K V (.ref aSPOTSv2x1) (.tuple [.str "newest", .str "newer"]) := fun V => .tup (.inr ⟨_, _, _, lmSPOTSv2x1, rfl, rfl, (by show 2 ≤ sizeLine; decide), (show Vals [L2.V.str "newest", L2.V.str "newer"] _ from (.cons ⟨_, rfl⟩ (.cons ⟨_, rfl⟩ .nil)))⟩) (.cons (.str _) (.cons (.str _) .nil))
  have qSPOTSv2x2 : ∀ V, Dq K V (.ref aSPOTSv2x2) (.tuple [.str "top", .str "newer"]) := fun V => .tup (.inr ⟨_, _, _, lmSPOTSv2x2, rfl, rfl, (by show 2 ≤ sizeLine; decide), (show Vals [L2.V.str "top", L2.V.str "newer"] _ from (.cons ⟨_, rfl⟩ (.cons ⟨_, rfl⟩ .nil)))⟩) (.cons (.str _) (.cons (.str _) .nil))
  have qSPOTSv2 : ∀ V, Dq K V (.ref aSPOTSv2) (.tuple [(.tuple [.str "between", .str "newer"]), (.tuple [.str "newest", .str "newer"]), (.tuple [.str "top", .str "newer"])]) := fun V => .tup (.inr ⟨_, _, _, lmSPOTSv2, rfl, rfl, (by show 3 ≤ sizeLine; decide), (show Vals [L2.V.ref aSPOTSv2x0, L2.V.ref aSPOTSv2x1, L2.V.ref aSPOTSv2x2] _ from (.cons rfl (.cons rfl (.cons rfl .nil))))⟩) (.cons (qSPOTSv2x0 _) (.cons (qSPOTSv2x1 _) (.cons (qSPOTSv2x2 _) .nil)))
  have T_SPOTS : TabC K mg w "SPOTS" spotsTbl := ⟨⟨aSPOTS, PySem.W.mg_of X G mSPOTS, fun z d hd => by
    rcases spots_cases hd with ⟨rfl, rfl⟩ | ⟨rfl, rfl⟩ | ⟨rfl, rfl⟩
    · exact ⟨L2.V.ref aSPOTSv0, ⟨esSPOTS, nSPOTS, _, lmSPOTS, klSPOTS, dSPOTS0, rfl⟩, fun V => (qSPOTSv0 _)⟩
    · exact ⟨L2.V.ref aSPOTSv1, ⟨esSPOTS, nSPOTS, _, lmSPOTS, klSPOTS, dSPOTS1, rfl⟩, fun V => (qSPOTSv1 _)⟩
    · exact ⟨L2.V.ref aSPOTSv2, ⟨esSPOTS, nSPOTS, _, lmSPOTS, klSPOTS, dSPOTS2, rfl⟩, fun V => (qSPOTSv2 _)⟩⟩⟩
  refine ⟨PySem.W.fnOf "law" "law" (defArgs sPLaw) (defBody sPLaw) (defScope sPLaw) .none kV39 dc39 pm39 an39 (.ref cdL) ct39, [(cdL, Pt)], spLawT K Pt, fun p hp => ?_, fun p hp => ?_, fun p hp => ?_, fun s v => .of_eq rfl, fun H a ns hl _ hT hS => ⟨a, ns, rfl, hS, Nat.le_trans hl (by decide), hT (cdL, Pt) (List.mem_singleton.mpr rfl), fun _ => rfl⟩, fun base KB _ hTB => ?_⟩
  · rw [List.mem_singleton] at hp; subst hp; exact hTab
  · rw [List.mem_singleton] at hp; subst hp; exact ptn
  · rw [List.mem_singleton] at hp; subst hp; exact PySem.W.codeHd_of_K X hdL
  have TB := hTB (cdL, Pt) (List.mem_singleton.mpr rfl)
  have Xwl := HN.ok_wordList (P := l.prog) (w := w) (base := base) HIsWordList TH HIsList HIsWord
  have Xwi := HN.ok_within (P := l.prog) (w := w) (base := base) HIsIntWithin TH HIsInt
  have Xid := HN.ok_idle (P := l.prog) (w := w) (base := base) HIdleEffect
  have Xik := HN.ok_isKey (P := l.prog) (w := w) (base := base) HIsKey TH Cn HIsList
  have Xie := HN.ok_isEffect (P := l.prog) (w := w) (base := base) HIsEffect TH Cn HIsList HIsStep HIsIntWithin HIsInt
  have Xte := HN.ok_toldEffectsV (P := l.prog) (w := w) (base := base) HToldEffects TH HIsKey Xik HIsEffect Xie HIdleEffect Xid
  have Xtw := HN.ok_toldWorths (P := l.prog) (w := w) (base := base) HToldWorths TH HIsIntWithin Xwi
  have XBi := HN.ok_bInitV (P := l.prog) (w := w) (base := base) FDB TH BC HIsWordList Xwl HToldEffects Xte HToldWorths Xtw
  have XBs := HN.ok_bSorts (P := l.prog) (w := w) (base := base) FB_sorts TH BC
  have XBf := HN.ok_bFirst (P := l.prog) (w := w) (base := base) FB_first BC
  have XBt := HN.ok_bTableV (P := l.prog) (w := w) (base := base) FB_table BC Cn HIdleEffect Xid
  have LBs := lift_bSorts XBs
  have LBf := lift_bFirst XBf
  have Xfs := HN.ok_firstV (P := l.prog) (w := w) (base := base) HFirstStanding BC MB_first bB_first XBf
  have XCi := HN.ok_cInitV (P := l.prog) (w := w) (base := base) FDC TH CoC BC HFirstStanding Xfs MB_sorts bB_sorts XBs MB_table bB_table XBt
  have Xdr := HN.ok_draw (P := l.prog) (w := w) (base := base) HDraw.F TH
  have Xpi := HN.ok_pick (P := l.prog) (w := w) (base := base) HPick.F TH Xdr HDraw.m HDraw.F.kp HDraw.b
  have Xws := HN.ok_words (P := l.prog) (w := w) (base := base) HDrawnWords TH HDraw Xdr
  have Xre := HN.ok_effect (P := l.prog) (w := w) (base := base) HRandomEffect HDraw Xdr HPick Xpi
  have Xsm := HN.ok_steps (P := l.prog) (w := w) (base := base) HStepMenu HPick Xpi
  have Xwd := HN.ok_wild (P := l.prog) (w := w) (base := base) HWild TH HDraw Xdr HPick Xpi HDrawnWords Xws HRandomEffect Xre HStepMenu Xsm
  have Xnr := HN.ok_near (P := l.prog) (w := w) (base := base) HNear TH HDraw Xdr HPick Xpi HRandomEffect Xre
  have GLSomePlan := (HN.ok_plan (P := l.prog) (w := w) (base := base) HSomePlan HDraw Xdr HWild Xwd HNear Xnr).imp (plan_lift (K := K))
  have GPIsList := okPIsList (P := l.prog) (w := w) (base := base) DPIsList T
  have GPIsListX := okPIsListX (P := l.prog) (w := w) (base := base) DPIsList T
  have GPIsListU := fn_or GPIsList GPIsListX
  have GPIsInt := okPIsInt (P := l.prog) (w := w) (base := base) DPIsInt T
  have GPIsLetter := okPIsLetter (P := l.prog) (w := w) (base := base) DPIsLetter T DPIsInt GPIsInt DPIsList GPIsList
  have GPBadIndex := okPBadIndex (P := l.prog) (w := w) (base := base) DPBadIndex T DPIsLetter GPIsLetter DPIsList GPIsListU
  have GPFirstStanding := okPFirstStanding (P := l.prog) (w := w) (base := base) DPFirstStanding T BC MB_first LBf bB_first
  have GPSpotsAt := okPSpotsAt (P := l.prog) (w := w) (base := base) DPSpotsAt T T_SPOTS M_FIRST_SPOTS
  have GPSpotOf := okPSpotOf (P := l.prog) (w := w) (base := base) DPSpotOf T
  have GPKeyAt := okPKeyAt (P := l.prog) (w := w) (base := base) DPKeyAt T DPSpotsAt GPSpotsAt
  have GPStandingBehind := okPStandingBehind (P := l.prog) (w := w) (base := base) DPStandingBehind T
  have GPMoveBy := okPMoveBy (P := l.prog) (w := w) (base := base) DPMoveBy T DPStandingBehind GPStandingBehind
  have GPCheckRow := okPCheckRow (P := l.prog) (w := w) (base := base) DPCheckRow T DPBadIndex GPBadIndex BC MB_sorts LBs bB_sorts
  have GPCheckRowX := okPCheckRowX (P := l.prog) (w := w) (base := base) DPCheckRow DPBadIndex GPBadIndex BC MB_sorts XBs bB_sorts REL
  have GCMovesAlong := okCMovesAlong (P := l.prog) (w := w) (base := base) FC_moves_along T DPMoveBy GPMoveBy DPKeyAt GPKeyAt DPSpotOf GPSpotOf clC nC_first nC_effects
  have GPStandingOf := okPStandingOf (P := l.prog) (w := w) (base := base) DPStandingOf T DPFirstStanding GPFirstStanding DPCheckRow GPCheckRow MKC FDC he0C XCi mgC clC MC_moves_along GCMovesAlong bC_moves_along
  have GPStandingOfX := okPStandingOfX (P := l.prog) (w := w) (base := base) DPStandingOf DPCheckRow GPCheckRowX
  have GLSource := okLSource (P := l.prog) (w := w) (base := base) DLSource T
  have GLDraw := okLDraw (P := l.prog) (w := w) (base := base) DLDraw T
  have GLPick := okLPick (P := l.prog) (w := w) (base := base) DLPick T DLDraw GLDraw
  have GLPickX := okLPickX (P := l.prog) (w := w) (base := base) DLPick T DLDraw GLDraw
  have GLSame := okLSame (P := l.prog) (w := w) (base := base) DLSame T 5
  have GLEffectOf := okLEffectOf (P := l.prog) (w := w) (base := base) DLEffectOf T
  have GLAgeOf := okLAgeOf (P := l.prog) (w := w) (base := base) DLAgeOf T
  have GLGone := okLGone (P := l.prog) (w := w) (base := base) DLGone T DLEffectOf GLEffectOf DLAgeOf GLAgeOf
  have GLStandingBehind := okLStandingBehind (P := l.prog) (w := w) (base := base) DLStandingBehind T DLGone GLGone
  have GLBookOf := okLBookOf (P := l.prog) (w := w) (base := base) DLBookOf T MKB FDB XBi mgB
  have GLSomeRow := okLSomeRow (P := l.prog) (w := w) (base := base) DLSomeRow T DLDraw GLDraw DLPick GLPick
  exact okPLaw (P := l.prog) (w := w) (base := base) T DLSame GLSame DLTried DPStandingOf GPStandingOf DLDraw GLDraw DLPick GLPick DLStandingBehind GLStandingBehind DLSomeRow GLSomeRow DLBookOf GLBookOf DLSomePlan GLSomePlan DLSource GLSource GLPickX GPStandingOfX xx REL FL TB
end PW


open PySem PySem.W PyProof.Rows in
set_option maxRecDepth 100000 in
set_option maxHeartbeats 0 in
theorem PySem.Challenge.cw_heldnotes_k14_standings_of_rows_holds : PySem.Challenge.rw_heldnotes_k14_standings_of_rows.Holds := by
  w_on; o_law; k_head; (case hw => w_witness2)
  k_fill
  refine LamX.walk_ofTs (l := PySem.Challenge.rw_heldnotes_k14_standings_of_rows) (n := 63) (k := 9) (x := "_law_script") (CX := fun _ => L2.CX0) rfl (by decide) rfl ⟨rfl, by decide, by decide⟩ (fun w h Y => PySem.W.km_in_of Y) ?F (fun _ _ _ _ _ z => z)
  case F =>
    intro w mg fa h Y KX G hmg
    have hT8 := PySem.W.km_tabs_of Y
    refine' PW.all_mk KX G hmg ?z_str ?z_dict ?z_set ?z_sorted ?z_range ?z_min ?z_max ?z_sum ?z_len ?z_int ?z_isinstance ?z_all ?z_any ?z_zip ?z_enumerate ?z_list ?z_tuple ?z_bool ?z_repr ?opS ?z_super ?topS ?aEL ?xEL ?rEL ?saEL ?eEL ?tEL ?kEL ?suEL ?alEL ?veEL ?noEL ?iEL ?tiEL ?lEL ?cEL ?qaEL ?qbEL ?qcEL ?qdEL ?gaEL ?ggEL ?hdEL ?xx ?a1 ?l1 ?c1 ?k1 ?a2 ?l2 ?c2 ?k2 ?a3 ?l3 ?c3 ?k3 ?a4 ?l4 ?c4 ?k4 ?a5 ?l5 ?c5 ?k5 ?a6 ?l6 ?c6 ?k6 ?a7 ?l7 ?c7 ?k7 ?a8 ?l8 ?c8 ?k8 ?a9 ?l9 ?c9 ?k9 ?a10 ?l10 ?c10 ?k10 ?a11 ?l11 ?c11 ?k11 ?a12 ?l12 ?c12 ?k12 ?a13 ?l13 ?c13 ?k13 ?a14 ?l14 ?c14 ?k14 ?a15 ?l15 ?c15 ?k15 ?a16 ?l16 ?c16 ?k16 ?a17 ?l17 ?c17 ?k17 ?a18 ?l18 ?c18 ?k18 ?a19 ?l19 ?c19 ?k19 ?a20 ?l20 ?c20 ?k20 ?a21 ?l21 ?c21 ?k21 ?a22 ?l22 ?c22 ?k22 ?a23 ?l23 ?c23 ?k23 ?a24 ?l24 ?c24 ?k24 ?a25 ?l25 ?c25 ?k25 ?a26 ?l26 ?c26 ?k26 ?a27 ?l27 ?c27 ?k27 ?a28 ?l28 ?c28 ?k28 ?a29 ?l29 ?c29 ?k29 ?a30 ?l30 ?c30 ?k30 ?a31 ?l31 ?c31 ?k31 ?a32 ?l32 ?c32 ?k32 ?a33 ?l33 ?c33 ?k33 ?a34 ?l34 ?c34 ?k34 ?a35 ?l35 ?c35 ?k35 ?a36 ?l36 ?c36 ?k36 ?a37 ?l37 ?c37 ?k37 ?a38 ?l38 ?c38 ?k38 ?a39 ?l39 ?c39 ?k39 ?lcL ?pt ?hdL ?ptn ?aCB ?pgB ?hdB ?poB ?saB ?mkB ?kcB ?nB_states ?nB_sorts ?nB_first ?nB_effects ?nB_worths ?nB_traits ?aCC ?pgC ?hdC ?poC ?saC ?mkC ?kcC ?nC_first ?nC_sorts ?nC_effects ?nC_moves ?a40 ?l40 ?c40 ?k40 ?i40 ?a41 ?l41 ?c41 ?k41 ?i41 ?a42 ?l42 ?c42 ?k42 ?i42 ?a43 ?l43 ?c43 ?k43 ?i43 ?a44 ?l44 ?c44 ?k44 ?i44 ?kwB ?a45 ?l45 ?c45 ?k45 ?i45 ?ldC ?leC ?mAGES ?lmAGES ?mWHOLE ?mFIRST_SPOTS ?lmFIRST_SPOTS ?lmFIRST_SPOTSx0 ?mSPOTS ?lmSPOTS ?klSPOTS ?dSPOTS0 ?dSPOTS1 ?dSPOTS2 ?lmSPOTSv0 ?lmSPOTSv0x0 ?lmSPOTSv0x1 ?lmSPOTSv0x2 ?lmSPOTSv0x3 ?lmSPOTSv0x4 ?lmSPOTSv1 ?lmSPOTSv1x0 ?lmSPOTSv1x1 ?lmSPOTSv1x2 ?lmSPOTSv2 ?lmSPOTSv2x0 ?lmSPOTSv2x1 ?lmSPOTSv2x2 (hT8 _ ?tb)
    (case z_str => k_is)
    (case z_dict => k_is)
    (case z_set => k_is)
    (case z_sorted => k_is)
    (case z_range => k_is)
    (case z_min => k_is)
    (case z_max => k_is)
    (case z_sum => k_is)
    (case z_len => k_is)
    (case z_int => k_is)
    (case z_isinstance => k_is)
    (case z_all => k_is)
    (case z_any => k_is)
    (case z_zip => k_is)
    (case z_enumerate => k_is)
    (case z_list => k_is)
    (case z_tuple => k_is)
    (case z_bool => k_is)
    (case z_repr => k_is)
    (case opS => k_is)
    (case z_super => k_is)
    (case topS => first | rfl | decide +kernel)
    (case aEL => k_is)
    (case xEL => k_is)
    (case rEL => first | rfl | decide +kernel)
    (case saEL => k_is)
    (case eEL => k_is)
    (case tEL => k_is)
    (case kEL => k_is)
    (case suEL => k_is)
    (case alEL => ks_is)
    (case veEL => k_is)
    (case noEL => k_is)
    (case iEL => k_is)
    (case tiEL => k_is)
    (case lEL => k_is)
    (case cEL => k_is)
    (case qaEL => k_is)
    (case qbEL => k_is)
    (case qcEL => rfl)
    (case qdEL => first | rfl | decide +kernel)
    (case gaEL => k_is)
    (case ggEL => k_is)
    (case hdEL => k_is)
    (case xx => kts_exm)
    (case a1 => k_is)
    (case l1 => k_is)
    (case c1 => k_is)
    (case k1 => k_is)
    (case a2 => k_is)
    (case l2 => k_is)
    (case c2 => k_is)
    (case k2 => k_is)
    (case a3 => k_is)
    (case l3 => k_is)
    (case c3 => k_is)
    (case k3 => k_is)
    (case a4 => k_is)
    (case l4 => k_is)
    (case c4 => k_is)
    (case k4 => k_is)
    (case a5 => k_is)
    (case l5 => k_is)
    (case c5 => k_is)
    (case k5 => k_is)
    (case a6 => k_is)
    (case l6 => k_is)
    (case c6 => k_is)
    (case k6 => k_is)
    (case a7 => k_is)
    (case l7 => k_is)
    (case c7 => k_is)
    (case k7 => k_is)
    (case a8 => k_is)
    (case l8 => k_is)
    (case c8 => k_is)
    (case k8 => k_is)
    (case a9 => k_is)
    (case l9 => k_is)
    (case c9 => k_is)
    (case k9 => k_is)
    (case a10 => k_is)
    (case l10 => k_is)
    (case c10 => k_is)
    (case k10 => k_is)
    (case a11 => k_is)
    (case l11 => k_is)
    (case c11 => k_is)
    (case k11 => k_is)
    (case a12 => k_is)
    (case l12 => k_is)
    (case c12 => k_is)
    (case k12 => k_is)
    (case a13 => k_is)
    (case l13 => k_is)
    (case c13 => k_is)
    (case k13 => k_is)
    (case a14 => k_is)
    (case l14 => k_is)
    (case c14 => k_is)
    (case k14 => k_is)
    (case a15 => k_is)
    (case l15 => k_is)
    (case c15 => k_is)
    (case k15 => k_is)
    (case a16 => k_is)
    (case l16 => k_is)
    (case c16 => k_is)
    (case k16 => k_is)
    (case a17 => k_is)
    (case l17 => k_is)
    (case c17 => k_is)
    (case k17 => k_is)
    (case a18 => k_is)
    (case l18 => k_is)
    (case c18 => k_is)
    (case k18 => k_is)
    (case a19 => k_is)
    (case l19 => k_is)
    (case c19 => k_is)
    (case k19 => k_is)
    (case a20 => k_is)
    (case l20 => k_is)
    (case c20 => k_is)
    (case k20 => k_is)
    (case a21 => k_is)
    (case l21 => k_is)
    (case c21 => k_is)
    (case k21 => k_is)
    (case a22 => k_is)
    (case l22 => k_is)
    (case c22 => k_is)
    (case k22 => k_is)
    (case a23 => k_is)
    (case l23 => k_is)
    (case c23 => k_is)
    (case k23 => k_is)
    (case a24 => k_is)
    (case l24 => k_is)
    (case c24 => k_is)
    (case k24 => k_is)
    (case a25 => k_is)
    (case l25 => k_is)
    (case c25 => k_is)
    (case k25 => k_is)
    (case a26 => k_is)
    (case l26 => k_is)
    (case c26 => k_is)
    (case k26 => k_is)
    (case a27 => k_is)
    (case l27 => k_is)
    (case c27 => k_is)
    (case k27 => k_is)
    (case a28 => k_is)
    (case l28 => k_is)
    (case c28 => k_is)
    (case k28 => k_is)
    (case a29 => k_is)
    (case l29 => k_is)
    (case c29 => k_is)
    (case k29 => k_is)
    (case a30 => k_is)
    (case l30 => k_is)
    (case c30 => k_is)
    (case k30 => k_is)
    (case a31 => k_is)
    (case l31 => k_is)
    (case c31 => k_is)
    (case k31 => k_is)
    (case a32 => k_is)
    (case l32 => k_is)
    (case c32 => k_is)
    (case k32 => k_is)
    (case a33 => k_is)
    (case l33 => k_is)
    (case c33 => k_is)
    (case k33 => k_is)
    (case a34 => k_is)
    (case l34 => k_is)
    (case c34 => k_is)
    (case k34 => k_is)
    (case a35 => k_is)
    (case l35 => k_is)
    (case c35 => k_is)
    (case k35 => k_is)
    (case a36 => k_is)
    (case l36 => k_is)
    (case c36 => k_is)
    (case k36 => k_is)
    (case a37 => k_is)
    (case l37 => k_is)
    (case c37 => k_is)
    (case k37 => k_is)
    (case a38 => k_is)
    (case l38 => k_is)
    (case c38 => k_is)
    (case k38 => k_is)
    (case a39 => k_is)
    (case l39 => k_is)
    (case c39 => k_is)
    (case k39 => k_is)
    (case lcL => k_is)
    (case pt => rfl)
    (case hdL => kernel_rfl)
    (case ptn => first | kernel_rfl | k_is)
    (case aCB => k_is)
    (case pgB => k_is)
    (case hdB => k_is)
    (case poB => k_is)
    (case saB => k_is)
    (case mkB => k_is)
    (case kcB => k_is)
    (case nB_states => k_is)
    (case nB_sorts => k_is)
    (case nB_first => k_is)
    (case nB_effects => k_is)
    (case nB_worths => k_is)
    (case nB_traits => k_is)
    (case aCC => k_is)
    (case pgC => k_is)
    (case hdC => k_is)
    (case poC => k_is)
    (case saC => k_is)
    (case mkC => k_is)
    (case kcC => k_is)
    (case nC_first => k_is)
    (case nC_sorts => k_is)
    (case nC_effects => k_is)
    (case nC_moves => k_is)
    (case a40 => k_is)
    (case l40 => k_is)
    (case c40 => k_is)
    (case k40 => k_is)
    (case i40 => k_is)
    (case a41 => k_is)
    (case l41 => k_is)
    (case c41 => k_is)
    (case k41 => k_is)
    (case i41 => k_is)
    (case a42 => k_is)
    (case l42 => k_is)
    (case c42 => k_is)
    (case k42 => k_is)
    (case i42 => k_is)
    (case a43 => k_is)
    (case l43 => k_is)
    (case c43 => k_is)
    (case k43 => k_is)
    (case i43 => k_is)
    (case a44 => k_is)
    (case l44 => k_is)
    (case c44 => k_is)
    (case k44 => k_is)
    (case i44 => k_is)
    (case kwB => k_is)
    (case a45 => k_is)
    (case l45 => k_is)
    (case c45 => k_is)
    (case k45 => k_is)
    (case i45 => k_is)
    (case ldC => k_is)
    (case leC => k_is)
    (case mAGES => k_is)
    (case lmAGES => k_is)
    (case mWHOLE => k_is)
    (case mFIRST_SPOTS => k_is)
    (case lmFIRST_SPOTS => k_is)
    (case lmFIRST_SPOTSx0 => k_is)
    (case mSPOTS => k_is)
    (case lmSPOTS => k_is)
    (case klSPOTS => exact ⟨⟨_, _, rfl, rfl⟩, ⟨⟨_, _, rfl, rfl⟩, ⟨⟨_, _, rfl, rfl⟩, trivial⟩⟩⟩)
    (case dSPOTS0 => k_is)
    (case dSPOTS1 => k_is)
    (case dSPOTS2 => k_is)
    (case lmSPOTSv0 => k_is)
    (case lmSPOTSv0x0 => k_is)
    (case lmSPOTSv0x1 => k_is)
    (case lmSPOTSv0x2 => k_is)
    (case lmSPOTSv0x3 => k_is)
    (case lmSPOTSv0x4 => k_is)
    (case lmSPOTSv1 => k_is)
    (case lmSPOTSv1x0 => k_is)
    (case lmSPOTSv1x1 => k_is)
    (case lmSPOTSv1x2 => k_is)
    (case lmSPOTSv2 => k_is)
    (case lmSPOTSv2x0 => k_is)
    (case lmSPOTSv2x1 => k_is)
    (case lmSPOTSv2x2 => k_is)
    (case tb => k_mem)

