import PyProof.Rows.All
import Wide.All
import OpenK.AllK
import Wide.FinOn
import HandS.ForMost
import HandS.Wide
import HandS.IsInst
import HandS.Zip
import HandS.DictComp
import HandS.Conv
import HandS.Strs
import HandS.StrMore
import HandS.MakeKwOnly
import KE.SortData
import HandS.ExcInit
import HandS.ExcField
import HandS.ExcSuper
import HandS.WordsExc
import HandS.ExcOwn
import KE.KExcSuper
import HandS.Walk
import HandS.Small
import HandS.Style
import HandS.DictTup
import KE.KDictItemsList
import HandS.ListItems
import HandS.Deep
import HandS.Lambda
import HandS.EndTab
import KE.KNestM
import KE.KLam
import KE.RegKSuper
import KE.RegKTryMore
import PySem.Challenge.RW_heldnotes_k11_devices_refuse

set_option Elab.async false
set_option linter.all false
set_option maxRecDepth 100000
set_option maxHeartbeats 0
/-! Rules of my own: a dict comprehension whose keys are tuples; sorted of a dict with such keys. -/
namespace HN
open PySem L2 PySem.Spec PyProof.Rows
theorem t_dictSet {Y : Cx} {pn : List (Addr × Obj)} {τ : L2.St} {H : Hp} {s : Shared} {E : Value → Shared → Prop} {D b : Addr} {kvs : List (List Key × V)} {k : List Key} {v : V} {r : Value} {Q : Unit → Shared → Prop} (hu : Y.A.units < cLine) (I : Inv Y pn τ H s)
    (hD : H D = some (.dT kvs)) (hz : kvs.length < sizeLine) (hb : H b = some (.tup (k.map kV))) (rv : RelV v r) (h : ∀ s', Inv Y pn τ (upd H D (.dT (putK kvs k v))) s' → Q () s') : wpAny (model Y.prog Y.w) Y.A (dictSet D (.ref b) r) Q E s := by
  obtain ⟨z, hd, xs, rel, dd⟩ := dt_of I.hok hD
  have hxs : xs.length ≤ sizeLine := (Paired.length rel) ▸ z
  have hl : (putK kvs k v).length ≤ sizeLine := by have := length_putK kvs k v; omega
  refine wpAny_dictSet_heap (hsz := hxs) (knd := tupleKind (mixKind Y.prog Y.w)) hu (key_of I.hok hb) dd fun h' dd' hs => h _ ?_
  obtain ⟨q, es, ep, hq, h2, h3, h4, _, h5⟩ := dd'
  exact d_write I (by rw [hD]; exact True.intro) hs ⟨q, hq⟩ ⟨hl, hd, _, (rel.put k hb rv).keeps fun c ys ec => (upd_ne (ne_of ec hD (fun z => nomatch z))).trans ec, q, es, ep, hq, h2, h3, h4, h5⟩

section
variable {X : Cx}
/-- one turn of {k: v for target in iter if ..}: what the pair asks -/
def stT (D : Addr) (tk tv : TE) (τ : L2.St) (H : Hp) (N : Hp → Prop) : Prop := tk τ H fun y H1 => tv τ H1 fun z H2 => ∃ (kvs : List (List Key × V)) (k : List Key) (b : Addr), y = .ref b ∧ H2 b = some (.tup (k.map kV)) ∧ H2 D = some (.dT kvs) ∧ kvs.length < sizeLine ∧ N (upd H2 D (.dT (putK kvs k z)))
/-- the walk over J, from the new dict D on -/
def goT (J : It) (g : TG) (tt : TT) (tk tv : TE) (vs : List Nat) (τ : L2.St) (D : Addr) (R : Hp → Prop) (H0 : Hp) : Prop := ∃ W : Nat → Nat → Hp → Prop, (∃ m, W 0 m H0) ∧ ∀ i m H, W i m H → (J.stop i H ∧ R H) ∨
  (J.go i H ∧ ∃ N : Hp → Prop, (∀ H', N H' → ∃ m', m' < m ∧ W (i + 1) m' H') ∧ ∀ x H', J.yld i H x H' → g x (wipe τ vs) H' fun τ2 H2 => wipe τ2 vs = wipe τ vs ∧ tt τ2 H2 fun b H3 => if b = true then stT D tk tv τ2 H3 N else N H3)
def tDT (wi : TI) (g : TG) (tt : TT) (tk tv : TE) (vs : List Nat) : TE := fun τ H Q => wi τ H fun J H1 => ∀ D, H1 D = none → goT J g tt tk tv vs τ D (Q (.ref D)) (upd H1 D (.dT []))
abbrev Blk (X : Cx) (scope : Scope) (s : Shared) (H : Hp) (C : Addr) (cl : List (Str × Addr)) (fp : List Addr) : Cx := X.blk s H scope (compEnvC scope cl C X.env) fp
theorem dt_core {pn : List (Addr × Obj)} {s : Shared} {τ : L2.St} {H : Hp} {Q : VK} {kx vx tg iter : Expr} {ifs : List Expr} {scope : Scope} {own : List (Str × Nat)} {pos pos' : Pos} {wi : TI} {g : TG} {tt : TT} {tk tv : TE} {use : Option (Value → Sem Unit)} {Qf : Value → Shared → Prop}
    (hu : X.A.units < cLine) (hc : X.calm = true) (hN : X.N.Nodup) (I : Inv X pn τ H s) (hi : PI X tg iter wi) (ok : BlkOk X.N X.env.scope scope own)
    (hg : ∀ s H C cl fp, PG (Blk X scope s H C cl fp) tg g) (ht : ∀ s H C cl fp, PTs (Blk X scope s H C cl fp) ifs tt) (hk : ∀ s H C cl fp, PE (Blk X scope s H C cl fp) kx tk) (hv : ∀ s H C cl fp, PE (Blk X scope s H C cl fp) vx tv)
    (hs : ∀ x, foldedSetIterable iter X.env x = pure x) (h : tDT wi g tt tk tv (own.map (·.2)) τ H Q)
    (hend : ∀ D C s' m H', Inv X pn τ H' s' → Q (.ref D) H' → s'.heap.Ns C m → FpOk X pn H' C → compPost (model X.prog X.w) X.A X.xe use Qf (.ref D) C (.ok .next) s') :
    wpAny (model X.prog X.w) X.A (comprehension (.DictComp kx vx [⟨tg, iter, ifs, 0⟩] scope pos) scope X.env pos' newDict false (eval iter X.env) use) Qf X.xe s := by
  have clos : closureFor scope X.env = pure (cloFrom X.env.cells scope.names []) := closure_ok fun y hy e => (ok.free y hy e).elim (fun k => I.ok.has _ (.inl k)) fun k => I.ok.has _ (.inr k)
  refine wpAny_comprehension_free (use := use) rfl hs clos ok.kind (fun y hy e => (ok.uniq y hy).trans (congrArg some e)) (thn (hi.run pn s τ H _ I h) fun xv s1 hx => thn hx fun itv s2 h2 => ?_)
  obtain ⟨it, fp, tn, J, H2, rfl, I2, T, st2, f2, q⟩ := h2
  refine wpAny_newObj_type (newEnv_comp ?_)
  obtain ⟨D, hD⟩ : ∃ D, s2.heap.objs.size = D := ⟨_, rfl⟩
  have hDn : H2 D = none := I2.hok.fresh (Nat.le_of_eq hD)
  obtain ⟨W, ⟨m0, w0⟩, turn⟩ := q D hDn
  obtain ⟨s3, hs3⟩ : ∃ s3 : Shared, s3 = { s2 with heap := s2.heap.push { cls := .type "dict", data := .dict #[] } } := ⟨_, rfl⟩
  obtain ⟨H3, hH3⟩ : ∃ H3 : Hp, H3 = upd H2 D (.dT []) := ⟨_, rfl⟩
  have I3 : Inv X pn τ H3 s3 := by
    subst hs3 hH3 hD
    exact I2.laid (t' := s2.toks) (fun b o e => Heap.get?_push_of_some _ e) (Nat.le_refl _) (dt_empty s2.heap I2.big)
  have e3 : s3.heap = s2.heap.push { cls := .type "dict", data := .dict #[] } := congrArg Shared.heap hs3
  have f3 : ∀ b ∈ fp, FpOk X pn H3 b ∧ b < s3.heap.objs.size := by
    intro b hb
    obtain ⟨o, eo, _⟩ := T.obj _ _ st2 b hb
    have lt : b < s2.heap.objs.size := Heap.lt_size eo
    refine ⟨⟨?_, (f2 b hb).2⟩, ?_⟩
    · subst hH3
      exact (upd_ne (fun z => Nat.lt_irrefl _ (by rw [← hD] at z; exact z ▸ lt))).trans (f2 b hb).1
    · rw [e3, Heap.size_push]; exact Nat.lt_succ_of_lt lt
  have st3 : tn 0 s3.heap := T.keep _ _ _ st2 fun b _ o e => e3 ▸ Heap.get?_push_of_some _ e
  have I4 := block_start I3 ok hN f3
  obtain ⟨cl, hcl⟩ : ∃ cl, cl = cellsFrom (s3.heap.objs.size + 1) scope.names (cloFrom X.env.cells scope.names []) := ⟨_, rfl⟩
  rw [← hs3]
  rw [← hcl] at I4 ⊢
  have pg := hg s3 H3 s3.heap.objs.size cl fp
  have pt := ht s3 H3 s3.heap.objs.size cl fp
  have pk := hk s3 H3 s3.heap.objs.size cl fp
  have pv := hv s3 H3 s3.heap.objs.size cl fp
  show codeAny _ _ (.compStart (.DictComp kx vx [⟨tg, iter, ifs, 0⟩] scope pos) 0 (.ref it) (.ref s2.heap.objs.size) (compEnvC scope cl s3.heap.objs.size X.env)) (compPost (model X.prog X.w) X.A X.xe use Qf (.ref s2.heap.objs.size) s3.heap.objs.size) { s3 with heap := pushCells (s3.heap.push { cls := .type "dict", data := .dict #[] }) scope.names }
  rw [hD]
  obtain ⟨ce, hce⟩ : ∃ ce, ce = compEnvC scope cl s3.heap.objs.size X.env := ⟨_, rfl⟩
  have cL : ce.locals = s3.heap.objs.size := by rw [hce]; rfl
  simp only [Blk] at pg pt pk pv
  rw [← hce] at I4 pg pt pk pv ⊢
  obtain ⟨s4, hs4⟩ : ∃ s4 : Shared, s4 = { s3 with heap := pushCells (s3.heap.push { cls := .type "dict", data := .dict #[] }) scope.names } := ⟨_, rfl⟩
  rw [← hs4] at I4 ⊢
  have st4 : tn 0 s4.heap := T.keep _ _ _ st3 fun b _ o e => by rw [hs4]; exact pushCells_keeps _ _ _ _ (Heap.get?_push_of_some _ e)
  rw [← hH3] at w0
  let B : Cx := X.blk s3 H3 scope ce fp
  let ok2 : Hp → Prop := fun H' => ∀ b ∈ fp, H' b = none
  have fpo : ∀ {τ' : L2.St} {H' : Hp} {s' : Shared}, Inv B [] τ' H' s' → ok2 H' → ∀ b ∈ fp, FpOk B [] H' b := by
    intro τ' H' s' J' n b hb
    exact ⟨n b hb, (J'.ok.exf b hb).1, J'.ok.exfs b hb, .inl hb, fun x c e => (J'.ok.exf b hb).2 x c e, fun p hp => absurd hp (by simp [B])⟩
  let Inn : Nat → Shared → Prop := fun n s' => ∃ i H', Inv B [] (wipe τ (own.map (·.2))) H' s' ∧ tn i s'.heap ∧ ok2 H' ∧ W i n H'
  have loop : codeAny (model X.prog X.w) X.A (.compLoop (.DictComp kx vx [⟨tg, iter, ifs, 0⟩] scope pos) 0 (.ref it) (.ref D) ce) (compPost (model X.prog X.w) X.A X.xe use Qf (.ref D) s3.heap.objs.size) s4 := by
    refine compLoop_anyD Inn ?_ m0 ⟨0, H3, I4, st4, fun b hb => (f3 b hb).1.1, w0⟩
    rintro n s5 ⟨i, H5, I5, st5, n5, w5⟩
    rcases turn i n H5 w5 with ⟨stop, fin⟩ | ⟨go, N, hN', step⟩
    · -- no item is left: back where the comprehension stands
      refine thnF (T.done B rfl rfl rfl hc i [] s5 _ H5 (fun _ _ => False) I5 (fpo I5 n5) st5 stop) fun r s6 ⟨hr, I6⟩ => ?_
      subst hr
      have back : Inv X pn τ H5 s6 := I3.call' (ch := fp) I6.os I6.base I6.hok I6.bare fun b hb => by
        obtain ⟨_, a1, _, a3, a4, a5⟩ := (f3 b hb).1
        exact ⟨a3, a1, a4, a5⟩
      have fr : H5 s3.heap.objs.size = none := cL ▸ (show H5 ce.locals = none from I6.free)
      obtain ⟨m, hn, _⟩ := I6.loc
      exact hend D _ s6 m H5 back fin (cL ▸ (show s6.heap.Ns ce.locals m from hn)) (I3.fpOk (Nat.le_refl _) fr)
    · refine thnF (T.item B rfl rfl rfl hc i [] s5 _ H5 (fun _ _ => False) I5 (fpo I5 n5) st5 go) fun r s6 ⟨u, hr, h6⟩ => ?_
      subst hr
      refine thnF h6 fun _ s7 ⟨x, H7, I7, r7, y7, st7, n7⟩ => ?_
      refine thnF (pg.run _ s7 _ H7 x u _ (I7.pinned (fpo I7 n7) (T.obj _ _ st7)) r7 (step x H7 y7)) fun _ s8 ⟨τ8, H8, I8, hw8, q8⟩ => ?_
      refine thnF (pt.run _ s8 τ8 H8 _ I8 q8) fun b s9 ⟨H9, I9, q9⟩ => ?_
      have fin : ∀ {s' : Shared} {H' : Hp}, Inv B ([] ++ pinsAt fp s7.heap) τ8 H' s' → N H' → ∃ m, m < n ∧ Inn m s' := by
        intro s' H' J' nx
        obtain ⟨m', hm, w'⟩ := hN' H' nx
        have pins : ∀ b ∈ fp, ∀ o, s7.heap.get? b = some o → s'.heap.get? b = some o ∧ H' b = none := by
          intro b hb o e
          have z := J'.pin (b, o) (List.mem_append_right _ (List.mem_append_right _ (mem_pinsAt hb e)))
          exact ⟨z.1, z.2.1⟩
        refine ⟨m', hm, i + 1, H', J'.unpinned (pins := []) |>.weak ?_ ?_, ?_, ?_, w'⟩
        · rw [← hw8, wipe_length]
        · intro j v e
          rw [← hw8] at e
          exact (wipe_some e).1
        · exact T.keep _ _ _ st7 fun b hb o e => (pins b hb o e).1
        · intro b hb
          obtain ⟨o, e, _⟩ := T.obj _ _ st7 b hb
          exact (pins b hb o e).2
      cases b with
      | false => exact fin I9 q9
      | true =>
        have q9' : stT D tk tv τ8 H9 N := q9
        refine thnF (pk.run _ s9 τ8 H9 _ I9 q9') fun z s10 ⟨yk, H10, I10, r10, q10⟩ => ?_
        refine thnF (pv.run _ s10 τ8 H10 _ I10 q10) fun z2 s11 ⟨yv, H11, I11, r11, kvs, k, bk, ek, hb11, hD11, hz11, nx⟩ => ?_
        subst ek
        cases (show z = Value.ref bk from r10)
        exact t_dictSet (Y := B) hu I11 hD11 hz11 hb11 r11 fun s12 I12 => fin I12 nx
  exact codeAny_compStart_dict loop (T.self X.A 0 _ _ _ st4 loop)
/-- {k: v for target in iter if ..} with tuples for keys, as a value -/
theorem pe_dt {kx vx tg iter : Expr} {ifs : List Expr} {scope : Scope} {own : List (Str × Nat)} {pos : Pos} {wi : TI} {g : TG} {tt : TT} {tk tv : TE} (hu : X.A.units < cLine) (hc : X.calm = true) (hN : X.N.Nodup) (hi : PI X tg iter wi) (ok : BlkOk X.N X.env.scope scope own)
    (hg : ∀ s H C cl fp, PG (Blk X scope s H C cl fp) tg g) (ht : ∀ s H C cl fp, PTs (Blk X scope s H C cl fp) ifs tt) (hk : ∀ s H C cl fp, PE (Blk X scope s H C cl fp) kx tk) (hv : ∀ s H C cl fp, PE (Blk X scope s H C cl fp) vx tv)
    (hs : ∀ x, foldedSetIterable iter X.env x = pure x := by intro _; rfl) : PE X (.DictComp kx vx [⟨tg, iter, ifs, 0⟩] scope pos) (tDT wi g tt tk tv (own.map (·.2))) := by
  refine ⟨fun pn s τ H Q I h => ?_⟩
  rw [arm_eval_DictComp]
  refine dt_core hu hc hN I hi ok hg ht hk hv hs h fun D C s' m H' I' q hn f => ⟨m, hn, fun h'' sb => ?_⟩
  obtain ⟨f0, f1, f2, f3, f4, f5⟩ := f
  have I'' : Inv X pn τ H' { s' with heap := h'' } := I'.turned (t' := s'.toks) (fun b o hb e => (sb.2 b hb).trans e) f0 f1 f3 f4 f5
  exact ⟨.ref D, H', I'', rfl, q⟩
/-- the walk over a list that stays -/
theorem goT_list {K : PySem.W.Frag} {a : Addr} {xs : List V} {g : TG} {tt : TT} {tk tv : TE} {vs : List Nat} {τ : L2.St} {D : Addr} {R : Hp → Prop} {H0 : Hp} (Pv : Nat → Hp → Prop) (h0 : Pv 0 H0) (hl : ∀ i H, i ≤ xs.length → Pv i H → SqL K H a xs)
    (hs : ∀ i x H, xs[i]? = some x → Pv i H → g x (wipe τ vs) H fun τ2 H2 => wipe τ2 vs = wipe τ vs ∧ tt τ2 H2 fun b H3 => if b = true then stT D tk tv τ2 H3 (Pv (i + 1)) else Pv (i + 1) H3) (hd : ∀ H, Pv xs.length H → R H) : goT (Itl K a) g tt tk tv vs τ D R H0 := by
  refine ⟨fun i m H => i ≤ xs.length ∧ m = xs.length - i ∧ Pv i H, ⟨_, Nat.zero_le _, rfl, h0⟩, fun i m H ⟨hi, hm, p⟩ => ?_⟩
  have q := hl i H hi p
  rcases Nat.lt_or_ge i xs.length with lt | ge
  · refine Or.inr ⟨⟨xs, xs[i], q, List.getElem?_eq_getElem lt⟩, Pv (i + 1), fun H' p' => ⟨xs.length - (i + 1), by omega, lt, rfl, p'⟩, fun x H' y => ?_⟩
    obtain ⟨rfl, y⟩ := y
    exact hs i x _ (y xs q) p
  · have e : i = xs.length := Nat.le_antisymm hi ge
    subst e
    exact Or.inl ⟨⟨xs, q, Nat.le_refl _⟩, hd H p⟩
theorem swD {kx vx : Expr} {gs : List Comprehension} {scope : Scope} {pos py : Pos} {y : Str} {l : Nat} {env : Env} (hk : env.scope.kind = .function) (hy : env.scope.names.lookup y = some .local) (hl : (py.line == pos.line) = true)
    (ha : (scope.names.any fun z => z.1 == y && (z.2 == .local || z.2 == .cell)) = false) : swapsWith (.DictComp kx vx gs scope pos) (some (.Name y py)) l env = pure true := by
  have b1 : (env.blockKind == ScopeKind.function) = true := by unfold Env.blockKind; rw [hk]; rfl
  have b2 : (env.kindOf y == some NameKind.local) = true := by rw [show env.kindOf y = some .local from hy]; rfl
  show (pure (env.blockKind == ScopeKind.function && env.kindOf y == some NameKind.local && py.line == pos.line && !(scope.names.any fun z => z.1 == y && (z.2 == .local || z.2 == .cell))) : Sem Bool) = pure true
  rw [b1, b2, hl, ha]; rfl
/-- name = {..} on one line -/
theorem ps_setDT {i : Nat} {y : Str} {py : Pos} {kx vx tg iter : Expr} {ifs : List Expr} {scope : Scope} {own : List (Str × Nat)} {pos spos : Pos} {wi : TI} {g : TG} {tt : TT} {tk tv : TE} (hu : X.A.units < cLine) (hc : X.calm = true) (hN : X.N.Nodup) (hy : X.N[i]? = some y)
    (hyl : X.env.scope.names.lookup y = some .local) (hsw : swapsWith (.DictComp kx vx [⟨tg, iter, ifs, 0⟩] scope pos) (some (.Name y py)) spos.line X.env = pure true) (hi : PI X tg iter wi) (ok : BlkOk X.N X.env.scope scope own)
    (hg : ∀ s H C cl fp, PG (Blk X scope s H C cl fp) tg g) (ht : ∀ s H C cl fp, PTs (Blk X scope s H C cl fp) ifs tt) (hk : ∀ s H C cl fp, PE (Blk X scope s H C cl fp) kx tk) (hv : ∀ s H C cl fp, PE (Blk X scope s H C cl fp) vx tv)
    (hs : ∀ x, foldedSetIterable iter X.env x = pure x := by intro _; rfl) : PS X (.Assign [.Name y py] (.DictComp kx vx [⟨tg, iter, ifs, 0⟩] scope pos) spos) (tAsg (tDT wi g tt tk tv (own.map (·.2))) (gName i)) := by
  refine ⟨fun pn s τ H D I h => ?_⟩
  rw [exec_Assign_Name_used _ _ _ _ hsw]
  refine wpAny_bind (wpAny_standAt (wpAny_bind ?_))
  have h' : tDT wi g tt tk tv (own.map (·.2)) τ H (fun x H1 => gName i x τ H1 D.nx) := h
  show wpAny _ X.A (comprehension (.DictComp kx vx [⟨tg, iter, ifs, 0⟩] scope pos) scope X.env (firstIterPos [⟨tg, iter, ifs, 0⟩] pos) newDict false (eval iter X.env) (some (assign (.Name y py) X.env)) >>= fun _ => _) _ _ s
  refine wpAny_bind (thn (dt_core (Qf := fun _ s' => SP X pn D .next s') hu hc hN I hi ok hg ht hk hv hs h' fun L C s' m H' I' q hn f => ?_) fun _ s' hq => wpAny_pure (wpAny_pure hq))
  obtain ⟨f0, f1, f2, f3, f4, f5⟩ := f
  refine wpAny_assign_Name (store_ok2 (v := V.ref L) I' hN hy (.inl hyl) rfl (fun s2 I2 ⟨a, sb, ha⟩ => ?_) (.inr hyl))
  have apart : C ≠ a := ha.elim (fun z => z ▸ f1) fun z e => f4 y a z e.symm
  refine ⟨m, hn.sameBut sb apart, fun h3 sb3 => ⟨_, H', I2.turned (t' := s2.toks) (fun b o hb e => (sb3.2 b hb).trans e) f0 f1 f3 f4 f5, q⟩⟩
end
end HN

namespace HN
open PySem L2 PySem.Spec PyProof.Rows
abbrev K3 := Str × Str × Str
def k3 (k : K3) : List L2.Key := [.inr k.1, .inr k.2.1, .inr k.2.2]
def v3 (k : K3) : List V := [.str k.1, .str k.2.1, .str k.2.2]
def enc3 (k : K3) : PyData := .tuple [.str k.1, .str k.2.1, .str k.2.2]
def le3 : K3 → K3 → Bool := PySem.W.dataLe false enc3
theorem k3_inj {a b : K3} (h : k3 a = k3 b) : a = b := by
  obtain ⟨a1, a2, a3⟩ := a
  obtain ⟨b1, b2, b3⟩ := b
  simp [k3] at h
  obtain ⟨rfl, rfl, rfl⟩ := h
  rfl
theorem k3_map (k : K3) : (k3 k).map kV = v3 k := rfl
theorem reads3 {P : Program} {w : World} {H : Hp} {h : Heap} {a : Addr} {k : K3} (x : ObjOk P w H h a (.tup (v3 k))) : Reads h (.ref a) (enc3 k) [] := by
  obtain ⟨_, its, r, o, e, hc, n, hd⟩ := x
  cases r with
  | cons r1 r => cases r with
    | cons r2 r => cases r with
      | cons r3 r =>
        cases r
        obtain ⟨t1, rfl⟩ := r1
        obtain ⟨t2, rfl⟩ := r2
        obtain ⟨t3, rfl⟩ := r3
        exact .tuple e hc hd (ReadsAll.cons (as := []) (bs := []) (.str _ _) (ReadsAll.cons (as := []) (bs := []) (.str _ _) (ReadsAll.cons (as := []) (bs := []) (.str _ _) .nil)))
theorem alike3 (a b : K3) : PySem.W.alike (enc3 a) (enc3 b) = true := by simp [enc3, PySem.W.alike, PySem.W.alikeAll]
theorem each_refs {R : Value → (Addr × K3) → Prop} (hR : ∀ v b, R v b → v = .ref b.1) : ∀ {out : List Value} {bs : List (Addr × K3)}, PySem.W.EachIs R out bs → out = bs.map fun b => Value.ref b.1
  | _, _, .nil => rfl
  | _, _, .cons h t => by rw [hR _ _ h, each_refs hR t]; rfl
theorem each_of {h : Heap} : ∀ {bs : List (Addr × K3)}, (∀ b ∈ bs, Reads h (.ref b.1) (enc3 b.2) []) → PySem.W.EachIs (fun v (b : Addr × K3) => v = .ref b.1 ∧ Reads h v (enc3 b.2) []) (bs.map fun b => Value.ref b.1) bs
  | [], _ => .nil
  | b :: bs, hb => .cons ⟨rfl, hb b List.mem_cons_self⟩ (each_of fun c hc => hb c (List.mem_cons_of_mem _ hc))
theorem pair_split {H : Hp} : ∀ {kvs : List (List L2.Key × V)} {bs : List Addr} {ks : List K3}, IsKeys H kvs bs → kvs.map (·.1) = ks.map k3 → ∃ ps : List (Addr × K3), ps.map (·.1) = bs ∧ ps.map (·.2) = ks ∧ ∀ b ∈ ps, H b.1 = some (.tup (v3 b.2))
  | [], _, ks, .nil, e => by
    cases ks with
    | nil => exact ⟨[], rfl, rfl, fun _ h => nomatch h⟩
    | cons => cases e
  | (k, v) :: kvs, b :: bs, ks, .cons h t, e => by
    cases ks with
    | nil => cases e
    | cons c ks =>
      rw [List.map_cons, List.map_cons] at e
      injection e with e1 e2
      obtain ⟨ps, q1, q2, q3⟩ := pair_split t e2
      refine ⟨(b, c) :: ps, by rw [List.map_cons, q1], by rw [List.map_cons, q2], fun x hx => ?_⟩
      rcases List.mem_cons.mp hx with rfl | hx
      · show H b = _
        rw [h]
        have e1' : k = k3 c := e1
        rw [e1']
        rfl
      · exact q3 x hx
theorem sort_snd (bs : List (Addr × K3)) : (bs.mergeSort fun a b => le3 a.2 b.2).map (·.2) = (bs.map (·.2)).mergeSort le3 := PySem.W.sort_maps (fun a : Addr × K3 => a.2) fun _ _ _ _ => rfl
section
variable {X : Cx}
/-- sorted(d), d a dict whose keys are three texts each -/
def rSort3 : List V → Hp → VK → Prop := fun xs H Q => ∃ (a : Addr) (kvs : List (List L2.Key × V)) (ks : List K3), xs = [.ref a] ∧ Rd H a (.dT kvs) ∧ kvs.map (·.1) = ks.map k3 ∧ ks.length ≤ 1000 ∧
  ∀ (ps : List (Addr × K3)) p, ps.map (·.2) = ks.mergeSort le3 → (∀ b ∈ ps, H b.1 = some (.tup (v3 b.2))) → H p = none → Q (.ref p) (upd H p (.lst (ps.map fun b => V.ref b.1)))
theorem call_sorted3 (hc : X.calm = true) (hu : X.A.units + 64 < cLine) : CallR X (.builtin "sorted") rSort3 := by
  intro pn s τ H xs us Q I r q
  obtain ⟨a, kvs, ks, rfl, hd, hks, hlen, q⟩ := q
  obtain ⟨u, rfl, rx⟩ := vals1 r
  cases rx
  obtain ⟨z, lo, xs, rel, o, es, ep, ho, hx, hdt, he, hn⟩ := (show ObjOk X.prog X.w H s.heap a (.dT kvs) from hd.ok I.hok)
  have l1 : es.size = xs.length := size_of_entries he
  have l2 : kvs.length = xs.length := Paired.length rel
  have l3 : kvs.length = ks.length := by have := congrArg List.length hks; simpa using this
  have hes : es.size ≤ sizeLine := by omega
  refine Calls.call_function_entry kind_sorted plain_sorted entry_sorted (args_sorted1 _) ?_
  unfold Builtin.«sorted»
  refine wpAny_bind (m := checkCount "sorted" 1 1 _) (wpAny_pure ?_)
  refine wpAny_bind (PySem.W.kdu_collect (A := X.A.in1) (kdl_raw lo hx hdt) (I.ok.hd hc) ho hes fun h' tk acc hk hacc => ?_)
  have ea : acc.toList = (xs.map fun x => x.2.1).map Value.ref := by
    apply List.ext_getElem?
    intro j
    rw [List.getElem?_map, List.getElem?_map]
    cases hj : acc.toList[j]? with
    | none =>
      have h1 := List.getElem?_eq_none_iff.mp hj
      rw [Array.length_toList, hacc.1] at h1
      rw [List.getElem?_eq_none (by omega)]; rfl
    | some v =>
      obtain ⟨en, hen, hv⟩ := hacc.2 j v (by rw [← Array.getElem?_toList]; exact hj)
      have qe := entry_at he j
      rw [hen] at qe
      cases hb : xs[j]? with
      | none => rw [hb] at qe; cases qe
      | some b =>
        rw [hb] at qe
        injection qe with qe
        rw [hv, qe]; rfl
  obtain ⟨ps, p1, p2, p3⟩ := pair_split (isKeys_of rel) hks
  have ea' : acc.toList = ps.map fun b => Value.ref b.1 := by rw [ea, ← p1, List.map_map]; rfl
  have I1 : Inv X pn τ H { s with heap := h', toks := tk } := I.kept hk
  have lps : ps.length = ks.length := by rw [← p2, List.length_map]
  refine wpAny_bind (wpAny_newList ?_ (by rw [ea', List.length_map]; exact Nat.le_trans (by omega : ps.length ≤ 1000) (by decide)))
  rw [ea']
  have hoL : (h'.push (seqObj "list" (ps.map fun b => Value.ref b.1).toArray 0)).get? h'.objs.size = some (seqObj "list" (ps.map fun b => Value.ref b.1).toArray 0) := Heap.get?_push_size _ rfl
  have rd : ∀ b ∈ ps, Reads (h'.push (seqObj "list" (ps.map fun b => Value.ref b.1).toArray 0)) (.ref b.1) (enc3 b.2) [] := fun b hb =>
    Reads.keeps (fun c o e => Heap.get?_push_of_some _ e) (reads3 (P := X.prog) (w := X.w) (I1.hok b.1 _ (p3 b hb)))
  have er := each_of rd
  show wpAny _ _ _ _ _ { s with heap := h'.push (seqObj "list" (ps.map fun b => Value.ref b.1).toArray 0), toks := tk }
  refine wpAny_bind (wpAny_holding (PySem.W.list_sort_data (s := { s with heap := h'.push (seqObj "list" (ps.map fun b => Value.ref b.1).toArray 0), toks := tk }) (R := fun v b => v = .ref b.1) (enc := fun b : Addr × K3 => enc3 b.2) hoL (er.mono fun _ _ x => x.1)
    (er.mono fun _ _ x => ⟨[], x.2, by simp⟩) (PySem.W.AllAlike.of fun b b' => alike3 b.2 b'.2) (PySem.W.Sortable.tuples fun b => ⟨_, _, rfl⟩) (Nat.le_trans (by omega : ps.length ≤ 1000) (by decide)) (fun b _ => ?_) fun out ho' eo => ?_))
  · show X.A.units + 1 + 1 + (PyData.depth (enc3 b.2)) < cLine
    have : PyData.depth (enc3 b.2) ≤ 2 := by simp [enc3, PyData.depth, PyData.depthAll]
    omega
  · have eo' := each_refs (fun v b h => h) eo
    subst eo'
    obtain ⟨e', he'⟩ := sortedHeap_at (vs := ps.map fun b => Value.ref b.1) (out := ((ps.mergeSort (PySem.W.dataLe false fun b : Addr × K3 => enc3 b.2)).map fun b => Value.ref b.1).toArray) hoL
    have perm := List.mergeSort_perm ps (PySem.W.dataLe false fun b : Addr × K3 => enc3 b.2)
    refine wpAny_pure ⟨_, rfl, .ref h'.objs.size, upd H h'.objs.size (.lst ((ps.mergeSort (PySem.W.dataLe false fun b : Addr × K3 => enc3 b.2)).map fun b => V.ref b.1)), I1.laid (t' := tk) (fun b u e => ?_) (Nat.le_refl _) ?_, rfl, q _ _ ?_ (fun b hb => p3 b (perm.mem_iff.mp hb)) (I1.hok.fresh (Nat.le_refl _))⟩
    · have hb : b < h'.objs.size := Heap.lt_size e
      rw [sortedHeap_old (Nat.ne_of_lt hb) (by rw [Heap.size_push]; exact Nat.lt_succ_of_lt hb)]
      exact Heap.get?_push_of_some _ e
    · refine ⟨by rw [List.length_map, perm.length_eq]; exact Nat.le_trans (by omega : ps.length ≤ 1000) (by decide), _, e', ?_, he'⟩
      have := vals_refs ((ps.mergeSort (PySem.W.dataLe false fun b : Addr × K3 => enc3 b.2)).map (·.1))
      rw [List.map_map, List.map_map] at this
      exact this
    · have := sort_snd ps
      rw [p2] at this
      exact this
end
end HN

/-! set(xs) of a list of unlike texts, and its length. -/
namespace HN
open PySem L2 PySem.Spec PyProof.Rows
abbrev inTake (xs : List Str) (i : Nat) : Str → Bool := fun y => (xs.take i).any (· == y)
theorem inTake_succ {xs : List Str} {i : Nat} (hi : i < xs.length) (y : Str) : (inTake xs i y || decide (y = xs.getD i Str.empty)) = inTake xs (i + 1) y := by
  have e : xs.take (i + 1) = xs.take i ++ [xs.getD i Str.empty] := by
    rw [List.take_add_one, List.getElem?_eq_getElem hi, List.getD_eq_getElem?_getD, List.getElem?_eq_getElem hi]; rfl
  show _ = (xs.take (i + 1)).any (· == y)
  rw [e, List.any_append]
  congr 1
  simp only [List.any_cons, List.any_nil, Bool.or_false]
  by_cases q : y = xs.getD i Str.empty
  · subst q; simp
  · rw [decide_eq_false q]
    exact (beq_eq_false_iff_ne.mpr fun z => q z.symm).symm
theorem not_inTake {xs : List Str} (nd : xs.Nodup) {i : Nat} (hi : i < xs.length) : inTake xs i (xs.getD i Str.empty) = false := by
  cases c : inTake xs i (xs.getD i Str.empty) with
  | false => rfl
  | true =>
    obtain ⟨z, hz, ez⟩ := List.any_eq_true.mp c
    have ez' : z = xs.getD i Str.empty := eq_of_beq ez
    rw [List.getD_eq_getElem?_getD, List.getElem?_eq_getElem hi] at ez'
    have ez2 : z = xs[i] := ez'
    obtain ⟨j, hj⟩ := List.mem_iff_getElem?.mp hz
    rw [List.getElem?_take] at hj
    split at hj
    · rename_i hji
      obtain ⟨l, e⟩ := List.getElem?_eq_some_iff.mp hj
      exact absurd (e.trans ez2) (List.pairwise_iff_getElem.mp nd j i l hi hji)
    · cases hj
section
variable {prog : Program} {w : World} {A : Around} {R : Result → Shared → Prop} {I : Addr} {fp wr : List Addr} {G : Array GenState → Array GenState → Prop} {n : Nat} {P : Nat → Value → Prop} {St' : Nat → Shared → Prop}
theorem loopTx (W : WalksS prog w A.in1 I fp wr G n P St') (S : Addr) (hSf : S ∉ fp) (xs : List Str) (hsz : xs.length = n) (nd : xs.Nodup) (hn : n ≤ 100) (hval : ∀ i v, P i v → ∃ t, v = .str (xs.getD i Str.empty) t) (i : Nat) (s : Shared) (hi : i ≤ n) (hst : St' i s)
    (hS : s.heap.SetOf (PySem.strKind prog w) S (inTake xs i) i) (hR : ∀ s', Moved (S :: wr) G s s' → s'.heap.SetOf (PySem.strKind prog w) S (inTake xs n) n → R (.ok (.ret .none)) s') : codeAny (model prog w) A (.builtin "set.update.loop" ⟨[.ref S, .ref I], []⟩) R s := by
  have keepS : S ∉ wr := fun q => hSf (W.sub _ q)
  have wide : ∀ b ∈ wr, b ∈ S :: wr := fun b q => .tail _ q
  have moved : ∀ {j : Nat} {t t' : Shared}, t.heap.SetOf (PySem.strKind prog w) S (inTake xs j) j → Moved wr G t t' → t'.heap.SetOf (PySem.strKind prog w) S (inTake xs j) j := by
    intro j t t' ⟨o, es, ep, tb, ho, more⟩ hm
    exact ⟨o, es, ep, tb, hm.heap S _ keepS ho, more⟩
  generalize hk : n - i = k
  induction k generalizing i s with
  | zero =>
    obtain rfl : i = n := by omega
    refine codeAny_builtin PyProof.Rows.F.entry_set_update_loop ?_
    rw [Around.under_plainId PyProof.Rows.F.plain_set_update_loop _]
    refine wpAny_bind (m := pyNext (.ref I)) (W.done s _ _ hst fun s' hm => ?_)
    refine wpAny_pure (hR s' (hm.mono wide) (moved hS hm))
  | succ k ih =>
    have lt : i < n := by omega
    refine codeAny_builtin PyProof.Rows.F.entry_set_update_loop ?_
    rw [Around.under_plainId PyProof.Rows.F.plain_set_update_loop _]
    refine wpAny_bind (m := pyNext (.ref I)) (W.item i s _ _ lt hst fun v s' hP hst' hm => ?_)
    obtain ⟨t, rfl⟩ := hval i v hP
    have hS' := moved hS hm
    refine wpAny_bind (m := holding [Value.str (xs.getD i Str.empty) t] (setAdd S (.str (xs.getD i Str.empty) t))) (wpAny_holding ?_)
    unfold setAdd
    refine wpAny_holding (wpAny_bind ((PySem.strKind prog w).pyHash (k := xs.getD i Str.empty) (strKind_is _ _ _ _) ?_))
    refine wpAny_setAddHashed_of (knd := PySem.strKind prog w) (s := { s' with toks := s'.toks + 1 }) (strKind_is _ _ _ _) rfl hS' (by unfold scanBound; omega) fun h' sb new => ?_
    have lx : i < xs.length := by omega
    have new' : h'.SetOf (PySem.strKind prog w) S (inTake xs (i + 1)) (i + 1) := by
      refine SetOf_congr new (fun y => inTake_succ lx y) ?_
      rw [not_inTake nd lx]; simp
    refine wpAny_pure ⟨plainId_quiet PyProof.Rows.F.plain_set_update_loop _, ?_⟩
    refine ih (i + 1) _ lt (W.frame _ s' _ _ hst' (Nat.le_succ _) fun b hb o e => ?_) new' (fun s'' hm2 hS2 => ?_) (by omega)
    · exact (sb.2 b fun q => hSf (q ▸ hb)).trans e
    · refine hR s'' (Moved.trans W.gtrans ((hm.mono wide).then_heap (Nat.le_succ _) fun b o hb e => ?_) hm2) hS2
      exact (sb.2 b fun q => hb (by rw [q]; exact List.mem_cons_self)).trans e
end
section
variable {prog : Program} {w : World} {A : Around} {E : Value → Shared → Prop} {s : Shared}
abbrev newSet (led : Bool) : Obj := { cls := .type "set", dict := none, data := .set #[] 0 (.fresh 0 0 led) }
/-- what stands behind set(xs): the set at the place of the first new object -/
def SetTx (prog : Program) (w : World) (xs : List Str) (s : Shared) (h' : Heap) : Prop := h'.SetOf (PySem.strKind prog w) s.heap.objs.size (inTake xs xs.length) xs.length ∧ ∀ b o, b < s.heap.objs.size → s.heap.get? b = some o → h'.get? b = some o
theorem call_set_tx {l : Addr} {items : Array Value} {xs : List Str} {Q : Value → Shared → Prop} (hh : A.handled = none) (hl : s.heap.IsList l items) (hi : StrsAre items.toList xs) (nd : xs.Nodup) (hn : xs.length ≤ 100)
    (h : ∀ (h' : Heap) (tk : Nat), SetTx prog w xs s h' → Q (.ref s.heap.objs.size) { s with heap := h', toks := tk }) : wpAny (model prog w) A (call (.type "set") [.ref l]) Q E s := by
  have f0 := PySem.F.called_set.mro
  obtain ⟨c, tl, hmro⟩ := f0
  have f1 := PySem.F.called_set.made
  have f2 := PySem.F.called_set.sub
  have f3 := PySem.F.called_set.notType
  have f4 := PySem.F.called_set.canCreate
  have f5 := PySem.F.typeCall_set_1 (.ref l)
  refine wpAny_call (codeAny_of_tree (show wpAny _ _ (callAny (.type "set") _) _ _ _ from ?_))
  refine wpAny_pure ⟨Code.quiet_builtin _ (by decide +kernel), codeAny_builtin PySem.F.entry_type_call ?_⟩
  rw [Around.under_plain (weight_type_call_type "set" [.ref l] []) rfl]
  repeat (any_goals (first | assumption | wp_step))
  refine codeAny_mono (code_set_new_1 (.ref l) (E := E) (Q₁ := fun ob s₁ => ∃ led : Bool, ob = .ref s.heap.objs.size ∧ s₁ = { s with heap := s.heap.push (newSet led) }) fun led => ⟨led, rfl, rfl⟩) fun r s₁ hr => ?_
  obtain ⟨ob, led, rfl, rfl, rfl⟩ | q : (∃ ob led, r = .ok (.ret ob) ∧ ob = .ref s.heap.objs.size ∧ s₁ = { s with heap := s.heap.push (newSet led) }) ∨ ∃ e, r = .error e ∧ E e s₁ := by
    cases r with
    | error e => exact .inr ⟨e, rfl, hr⟩
    | ok fl =>
      cases fl with
      | ret ob => exact .inl (let ⟨led, a, b⟩ := hr; ⟨ob, led, rfl, a, b⟩)
      | _ => exact hr.elim
  case inr =>
    obtain ⟨e, rfl, he⟩ := q
    exact he
  have at0 : (s.heap.push (newSet led)).get? s.heap.objs.size = some (newSet led) := Heap.get?_push_size _ rfl
  have hT : Shared.TypeIs { s with heap := s.heap.push (newSet led) } (.ref s.heap.objs.size) "set" := ⟨_, at0, rfl⟩
  have g1 := PySem.F.called_set.init.lookup
  have g2 := PySem.F.called_set.init.bind (.ref s.heap.objs.size)
  repeat (any_goals (first | assumption | wp_step))
  refine codeAny_mono (codeAny_call_builtin (R := wants (fun r s₂ => r = .none ∧ ∃ h' tk, s₂ = { s with heap := h', toks := tk } ∧ SetTx prog w xs s h') E) PySem.F.called_set.init.plain PySem.F.entry_set_init (check_set_init_1 hT ?_)) fun r₂ s₂ hr₂ => ?_
  · obtain ⟨⟨oc, od, odt, osl⟩, hol, hcl, nl, hdl⟩ := hl
    simp only at hcl hdl
    subst hcl hdl
    have hol' : (s.heap.push (newSet led)).get? l = some { cls := .type "list", dict := od, data := .seq items nl, slots := osl } := Heap.get?_push_of_some _ hol
    have z1 := PySem.F.sub_list_set
    have z2 := PySem.F.sub_list_frozenset
    have z3 : (Value.type "list" == Value.type "dict") = false := by decide
    have hl1 : (s.heap.push (newSet led)).IsList l items := ⟨_, hol', rfl, nl, rfl⟩
    unfold Builtin.«set.__init__» noKeywords Builtin.Frozenset.updateFrom
    generalize hPI : pyIter = PI
    wp_walk
    subst hPI
    refine wpAny_pyIter_list hl1 (wpAny_bind (wpAny_runValue ?_))
    have lS : l < s.heap.objs.size := Heap.lt_size hol
    have sz1 : (s.heap.push (newSet led)).objs.size = s.heap.objs.size + 1 := Heap.size_push ..
    have hsz : xs.length = items.size := by rw [← StrsAre.len_eq hi, Array.length_toList]
    have ne1 : l ≠ (s.heap.push (newSet led)).objs.size := sz1 ▸ Nat.ne_of_lt (Nat.lt_succ_of_lt lS)
    refine loopTx ((Walks.list (show A.in1.in1.in1.handled = none by simp [hh]) _ l ne1 items).toS) s.heap.objs.size ?_ xs hsz nd (by omega) (fun i v hv => SS.strs_at hi i v (by rw [Array.getElem?_toList]; exact hv)) 0 _ (Nat.zero_le _)
      ⟨⟨_, Heap.get?_push_size _ rfl, rfl, rfl⟩, hl1.push _⟩ ?_ ?_
    · rw [sz1]
      simp only [List.mem_cons, List.not_mem_nil, or_false, not_or]
      exact ⟨Nat.ne_of_lt (Nat.lt_succ_self _), Nat.ne_of_gt lS⟩
    · have at1 : ((s.heap.push (newSet led)).push { cls := .type "list_iterator", data := .fields #[.ref l, .int 0 0] }).get? s.heap.objs.size = some (newSet led) := Heap.get?_push_of_some _ at0
      exact SetOf_congr ((setObjOf_fresh (knd := PySem.strKind prog w) led).setOf at1 (by unfold scanBound; omega)) (fun _ => rfl) rfl
    · intro s' hm hS'
      obtain ⟨h', g', d', tk', os'⟩ := s'
      obtain rfl : g' = s.gens := hm.gens
      obtain rfl : d' = s.drawn := hm.drawn
      obtain rfl : os' = s.os := hm.os
      refine wpAny_pure (show wpAny _ _ (ret Value.none) _ _ _ from wpAny_pure ⟨rfl, h', tk', rfl, hsz ▸ hS', fun b o hb e => ?_⟩)
      refine hm.heap b o ?_ (Heap.get?_push_of_some _ (Heap.get?_push_of_some _ e))
      simp only [List.mem_cons, List.not_mem_nil, or_false, not_or]
      exact ⟨Nat.ne_of_lt hb, sz1 ▸ Nat.ne_of_lt (Nat.lt_succ_of_lt hb)⟩
  · cases r₂ with
    | error e => exact hr₂
    | ok fl =>
      cases fl with
      | ret r =>
        obtain ⟨rfl, h', tk, rfl, hS'⟩ := hr₂
        repeat (any_goals (first | assumption | wp_step))
        exact h _ _ hS'
      | _ => exact hr₂.elim
end
/-- len(set(xs)), xs a list of unlike texts -/
def tLenSetTx (K : PySem.W.Frag) (ta : TE) : TE := fun τ H Q => ta τ H fun x H1 => ∃ (l : Addr) (xs : List Str), x = .ref l ∧ SqL K H1 l (xs.map V.str) ∧ xs.Nodup ∧ xs.length ≤ 100 ∧ Q (.int (xs.length : Nat)) H1
theorem pe_lenSetTx {X : Cx} {a : Expr} {ta : TE} {p p2 q pos : Pos} (hc : X.calm = true) (hg : Gl X "len") (hm : X.mg "len" = none) (hg2 : Gl X "set") (hm2 : X.mg "set" = none) (ha : PE X a ta)
    (na : starEach [a] X.env = (false, eval a X.env) :: starEach [] X.env := by rfl) : PE X (.Call (.Name "len" p) [.Call (.Name "set" p2) [a] [] q] [] pos) (tLenSetTx X.K ta) := by
  refine ⟨fun pn s τ H Q I h => Call_ (ld_blt I hg hm boot_len (callWith_builtin1 (args_cons ?_ rfl) rfl rfl))⟩
  refine Call_ (ld_blt I hg2 hm2 boot_set (callWith_type1 (args_cons (thn (ha.run pn s τ H _ I h) fun v s1 ⟨x, H1, I1, r1, q1⟩ => args_nil ?_) na) na rfl))
  obtain ⟨l, xs, rfl, hq, nd, h1, q1⟩ := q1
  cases r1
  obtain ⟨its, r, pl, _⟩ := I1.list hq
  refine call_set_tx (I1.ok.hd hc) pl.isList (by simpa using strsAre_of r) nd h1 fun h' tk ⟨hS, hk⟩ => args_nil ?_
  obtain ⟨o, es, ep, t, ho, hex, hd, _, _, _, hf, hn⟩ := hS
  have I2 : Inv X pn τ H1 { s1 with heap := h', toks := tk } := I1.kept fun b o e => hk b o (Heap.lt_size e) e
  exact call_len_set ho hex hd hf (by rw [hn]; omega) ⟨.int xs.length, H1, I2.tok _, ⟨_, by rw [hn]⟩, q1⟩
end HN

/-! The making of an own error whose first row hands a text to the class above. -/
namespace HN
open PySem PySem.Spec PyProof.Rows L2
/-- the __init__ of an own error, at f -/
structure XFn (P : Program) (K : PySem.W.Frag) (qual : Str) (par fld : Str) (C f : Addr) (fd : FuncData) : Prop where
  ex : ∃ (oc : Value) (od : Option Addr) (params : Arguments) (scope : Scope) (kV doc pm : Value) (an : Option Addr) (cda cc : Addr) (ct : Value) (osl : Array (Option Value)) (ccl cl : Value) (cdd cld : Option Addr) (ccs csl : Array (Option Value)) (vs : Array Value) (file : Str) (tf : Tok)
      (ar : Arg) (msg : Str) (j : Nat) (p0 p1 p2 p3 p4 p5 p6 p7 p8 p9 : Pos) (body : List Stmt),
    fd = PySem.W.ksFn "__init__" qual params body scope .none kV doc pm an (.ref cda) ct cc ∧
    body = [.Expr (.Call (.Attribute (.Call (.Name "super" p0) [] [] p1) "__init__" p2) [.Constant (.str msg) j p3] [] p4) p5, .Assign [.Attribute (.Name "self" p6) fld p7] (.Name par p8) p9] ∧
    (p2.endLine == p4.line) = true ∧ K.lookup f = some ⟨oc, od, .func fd, osl⟩ ∧ PySem.W.codeIn K (.ref cda) qual = true ∧
    K.lookup cc = some ⟨cl, cld, .cell (some (.ref C)), csl⟩ ∧ K.lookup cda = some ⟨ccl, cdd, .fields vs, ccs⟩ ∧ vs[2]? = some (.str file tf) ∧ ((P.main.file : Str) == file) = true ∧
    (params.posonlyargs ++ params.args).head? = some ar ∧ ar.arg = "self" ∧
    scope.kind = .function ∧ scope.isCoroutine = false ∧ scope.isGenerator = false ∧ (∀ y ∈ scope.names, y.2 ≠ .cell) ∧ (∀ y ∈ scope.names, y.2 = .free → y.1 = "__class__") ∧
    scope.names.lookup ("super" : Str) = some .globalImplicit ∧ scope.names.lookup ("__class__" : Str) = some .free ∧ scope.names.lookup ("self" : Str) = some .local ∧ scope.names.lookup par = some .local
/-- what the written part says of the class -/
structure XCl (P : Program) (K : PySem.W.Frag) (mg : Str → Option Value) (fld : Str) (C : Addr) : Prop where
  ox : OexC K C
  up : ∃ cd, PySem.W.clsIn K C = some cd
  su : PySem.W.mroIn K C (.ref C) = some true
  al : PySem.W.ks_superIn K C C "__init__" = some (some (.builtin "ValueError.__init__"))
  ve : PySem.W.subIn K (.ref C) (.type "ValueError") = some true
  op : PySem.W.nsIn K cStatics "thirdparty.any" = some none
  no : PySem.W.findIn K (.ref C) fld = some none
  top : (P.main.scope.names.lookup ("super" : Str)).isSome = false
  mgS : mg "super" = none
section
variable {P : Program} {w : World} {K : PySem.W.Frag} {mg : Str → Option Value} {base : Heap}
abbrev xEnv (qual : Str) (scope : Scope) (L f cda cc : Addr) : Env := PySem.W.ksEnv qual scope L f (.ref cda) cc
def cxX (P : Program) (w : World) (K : PySem.W.Frag) (mg : Str → Option Value) (base : Heap) (N : List Str) (qual : Str) (scope : Scope) (f cda cc : Addr) (A : Around) (outer : List Env) (s : Shared) (H : Hp) : Cx where
  prog := P
  w := w
  K := K
  mg := mg
  base := base
  A := A.deeper (xEnv qual scope s.heap.objs.size f cda cc)
  N := N
  s_0 := s
  H_0 := H
  env := xEnv qual scope s.heap.objs.size f cda cc
  outer := outer
  stack := xEnv qual scope s.heap.objs.size f cda cc :: outer
  ex := []
  calm := true
  fn := fun _ => false
  pn := []
  xe := fun _ _ => False
theorem inv_startX {N : List Str} {par qual : Str} {scope : Scope} {f cda cc C : Addr} {A : Around} {outer : List Env} {s : Shared} {H : Hp} {h1 : Heap} {tk : Nat} {cl : Value} {cld : Option Addr} {csl : Array (Option Value)} {us : List Value} {vs : List V}
    (hN : N = [("self" : Str), par]) (hp : ("self" : Str) ≠ par) (hd : A.handled = none) (e0 : Env0 P w K mg base A outer s H) (hl : vs.length = 2) (r : Vals vs us)
    (hk : scope.kind = .function) (h2 : ∀ y ∈ scope.names, y.2 ≠ .cell) (h3 : ∀ y ∈ scope.names, y.2 = .free → y.1 = "__class__") (hcc : K.lookup cc = some ⟨cl, cld, .cell (some (.ref C)), csl⟩)
    (hns : h1.Ns s.heap.objs.size (fun x => (N.zip us).reverse.lookup x)) (kp : ∀ b o, s.heap.get? b = some o → h1.get? b = some o) (hs : scope.names.lookup ("self" : Str) = some .local) (hq : scope.names.lookup par = some .local) :
    Inv (cxX P w K mg base N qual scope f cda cc A outer s H) [] (L2.start N vs) H { s with heap := h1, toks := tk } := by
  subst hN
  have noA : ∀ b : Addr, b ∉ (cxX P w K mg base [("self" : Str), par] qual scope f cda cc A outer s H).ex := fun b z => absurd (show b ∈ ([] : List Addr) from z) (by simp)
  have KX : K.In s.heap := e0.mod.kin.keeps fun b o e => (e0.bs b o e).1
  have one : ∀ {y : Str} {c : Addr}, (xEnv qual scope s.heap.objs.size f cda cc).cells.lookup y = some c → y = "__class__" ∧ c = cc := fun {y c} e => by
    have e : List.lookup y [(("__class__" : Str), cc)] = some c := e
    by_cases q : y = "__class__"
    · subst q
      simp [List.lookup] at e
      exact ⟨rfl, e.symm⟩
    · have q' : (y == ("__class__" : Str)) = false := beq_eq_false_iff_ne.mpr q
      simp [List.lookup, q'] at e
  have bcc : base.get? cc = some ⟨cl, cld, .cell (some (.ref C)), csl⟩ := e0.mod.kin _ _ hcc
  refine ⟨⟨e0.mod, hk, rfl, rfl, Nat.le_refl _, fun y z c a b => (one a).1.trans (one b).1.symm, fun y hy => ?_, fun y c z _ => ?_, fun _ => hd, Around.frames_deeper e0.frames, .inr ⟨rfl, rfl⟩, fun b z => absurd z (noA b), e0.bs, e0.bsz, fun b _ _ => noA b, fun b z => absurd z (noA b), e0.funs, e0.frf⟩,
    rfl, e0.bare, Un.kept kp, ⟨_, hns, fun i y v a1 a2 a3 => ?_⟩, fun y c e => ?_, e0.hok.fresh (Nat.le_refl _), fun y c e => ?_, fun p hp => absurd (show p ∈ ([] : List (Addr × Obj)) from hp) (by simp), e0.hok.kept kp, ?_⟩
  · have hy : scope.names.lookup y = some .cell ∨ scope.names.lookup y = some .free := hy
    rcases hy with hy | hy
    · exact absurd rfl (h2 _ (PySem.mem_of_lookup hy))
    · have e := h3 _ (PySem.mem_of_lookup hy) rfl
      refine ⟨cc, ?_⟩
      show List.lookup y [(("__class__" : Str), cc)] = some cc
      rw [show y = "__class__" from e]
      simp [List.lookup]
  · exact absurd (show false = true from z) (by simp)
  · have rl := r.length
    obtain ⟨u0, u1, rfl⟩ : ∃ u0 u1, us = [u0, u1] := by
      match us, rl.symm.trans hl with
      | [a, b], _ => exact ⟨a, b, rfl⟩
    obtain ⟨v0, v1, rfl⟩ : ∃ v0 v1, vs = [v0, v1] := by
      match vs, hl with
      | [a, b], _ => exact ⟨a, b, rfl⟩
    have r0 : RelV v0 u0 := by cases r with | cons a _ => exact a
    have r1 : RelV v1 u1 := by cases r with | cons _ b => cases b with | cons a _ => exact a
    have n2 : (("self" : Str) == par) = false := beq_eq_false_iff_ne.mpr hp
    match i, a1, a2 with
    | 0, a1, a2 =>
      have e1 : ("self" : Str) = y := Option.some.inj a1
      have e2 : v0 = v := Option.some.inj (Option.some.inj a2)
      subst e1; subst e2
      refine ⟨u0, r0, .inl ⟨hs, ?_⟩⟩
      show List.lookup ("self" : Str) ([(par, u1), (("self" : Str), u0)] : List (Str × Value)) = some u0
      simp [List.lookup, n2]
    | 1, a1, a2 =>
      have e1 : par = y := Option.some.inj a1
      have e2 : v1 = v := Option.some.inj (Option.some.inj a2)
      subst e1; subst e2
      refine ⟨u1, r1, .inl ⟨hq, ?_⟩⟩
      show List.lookup par [(par, u1), (("self" : Str), u0)] = some u1
      simp [List.lookup]
    | i + 2, a1, a2 =>
      have a1 : ([("self" : Str), par] : List Str)[i + 2]? = some y := a1
      simp at a1
  · obtain ⟨e1, e2⟩ := one e
    exact ⟨_, ⟨_, kp _ _ (e0.bs _ _ (e2 ▸ bcc)).1, rfl⟩⟩
  · obtain ⟨e1, e2⟩ := one e
    exact (e0.bs _ _ (e2 ▸ bcc)).2
  · show (L2.start _ vs).length = _
    unfold L2.start
    rw [List.length_append, List.length_map, List.length_replicate]
    show _ = 2
    simp [hl]
end
theorem super_call {p0 p1 p2 p3 p4 : Pos} {msg : Str} {j : Nat} {env : Env} (hpos : (p2.endLine == p4.line) = true) :
    eval (.Call (.Attribute (.Call (.Name "super" p0) [] [] p1) "__init__" p2) [.Constant (.str msg) j p3] [] p4) env = (do
      let ov ← attributeBase (.Call (.Name "super" p0) [] [] p1) "__init__" env (eval (.Call (.Name "super" p0) [] [] p1) env)
      standAt p2.atName
      let (f, first) ← holding [ov] (getMethod ov "__init__" (do return (← importBound (.Call (.Name "super" p0) [] [] p1) env).getD true))
      callWith p4 f first (backTo p4 (starEach [.Constant (.str msg) j p3] env)) []) := by
  have e : ∀ ov, methodCall (.Call (.Name "super" p0) [] [] p1) "__init__" p2 p4 env ov 1 (backTo p4 (starEach [.Constant (.str msg) j p3] env)) [] = (do
      let (f, first) ← holding [ov] (getMethod ov "__init__" (do return (← importBound (.Call (.Name "super" p0) [] [] p1) env).getD true))
      callWith p4 f first (backTo p4 (starEach [.Constant (.str msg) j p3] env)) []) := fun ov => by
    have few : methodCallForm 1 (backTo p4 (starEach [.Constant (.str msg) j p3] env)) [] = true := rfl
    unfold methodCall methodCallPos calleeOf
    simp only [few, hpos, Bool.not_true, Bool.false_or, if_true]
    rfl
  show (do
      let ov ← attributeBase (.Call (.Name "super" p0) [] [] p1) "__init__" env (eval (.Call (.Name "super" p0) [] [] p1) env)
      standAt p2.atName
      methodCall (.Call (.Name "super" p0) [] [] p1) "__init__" p2 p4 env ov 1 (backTo p4 (starEach [.Constant (.str msg) j p3] env)) []) = _
  simp only [e]
/-- the wrapper of ValueError's making, called: nothing of it is told -/
theorem call_mwVE {X : Cx} {pins : List (Addr × Obj)} {σ : L2.St} {H : Hp} {s : Shared} {u a C : Addr} {rest : List Value} {Q : Value → Shared → Prop} {E : Value → Shared → Prop} {A : Around} (T : OexC X.K C) (I : Inv X pins σ H s) (e : H a = some (exo a C none))
    (hu : s.heap.get? u = some (PySem.W.kxs_mw "ValueError.__init__" a)) (hz : rest.length ≤ sizeLine) (h : ∀ s', Inv X pins σ H s' → Q .none s') : wpAny (model X.prog X.w) A (call (.ref u) rest) Q E s := by
  obtain ⟨nm, q, N, bs, bm, sn, sub, ab, col, dd, k0, k1, k2, k3, k5, hC, hbm⟩ := id T.cls
  obtain ⟨t1, ho⟩ := exo_at I.hok e
  have hC' := I.kIn _ _ hC
  obtain ⟨hp, g, d, tk, os⟩ := s
  have mw1 : (Value.type "method-wrapper" == Value.type "method" || Value.type "method-wrapper" == Value.type "builtin_function_or_method" || Value.type "method-wrapper" == Value.type "method-wrapper") = true := by decide
  refine wpAny_call (codeAny_of_tree (show wpAny _ A.in1 (callAny (.ref u) ⟨rest, []⟩) _ _ _ from ?_))
  simp only [callAny]; refine wpAny_bind (wpAny_load hu ?_)
  simp only [PySem.W.kxs_mw, mw1, if_true]; refine PySem.W.KFB.if_so (by decide) (wpAny_bind (PySem.W.check_bound_init PySem.F.excBase_ValueError.toExcCallFacts hC' ho rfl (wpAny_bind (wpAny_pure (wpAny_pure ?_)))))
  refine ⟨plainId_quiet PySem.F.excBase_ValueError.init.plain _, codeAny_builtin PySem.F.excBase_ValueError.initEntry (PySem.W.exc_init_tree (cls := .ref C) (t0 := t1) (dv := none) (c2 := .none) (c3 := .none) (b4 := .bool false) ho hz fun h' k hx _ => ?_)⟩
  have J := I.write (t' := tk) (x := a) (e := a) (o := exo a C none) (by rw [e]; trivial) (.inl rfl) k ⟨_, hx⟩ (exo_ok hx)
  have eu : upd H a (exo a C none) = H := funext fun b => if hb : b = a then by rw [hb, upd_same, e] else by rw [upd_ne hb]
  rw [eu] at J; exact h _ J
def spXInit (C : Addr) (fld : Str) : Sp := fun vs H Q _ => ∃ (a : Addr) (v : V), vs = [.ref a, v] ∧ H a = some (exo a C none) ∧ ∀ d, H d = none → d ≠ a → Q .non (upd (upd H d (exd d [(fld, v)])) a (exo a C (some d)))
section
variable {P : Program} {w : World} {K : PySem.W.Frag} {mg : Str → Option Value} {base : Heap}
theorem ok_xinit {qual par fld : Str} {C f : Addr} {fd : FuncData} (F : XFn P K qual par fld C f fd) (T : XCl P K mg fld C) (hp : ("self" : Str) ≠ par) (hpd : (par == ("__debug__" : Str)) = false) (hpc : (par == ("__classdict__" : Str)) = false) : FnOk P w K mg base CX0 1 f fd [("self" : Str), par] (spXInit C fld) := by
  refine ⟨fun vs H Q E h => by obtain ⟨a, v, rfl, _⟩ := h; rfl, fun A outer s H args us vs Q E hr e0 hb r hsp => ?_⟩
  obtain ⟨a, v, rfl, ha, k⟩ := hsp
  obtain ⟨oc, od, params, scope, kV, doc, pm, an, cda, cc, ct, osl, ccl, cl, cdd, cld, ccs, csl, vs, file, tf, ar, msg, j, p0, p1, p2, p3, p4, p5, p6, p7, p8, p9, body, rfl, rfl, hpos, lk, hcd, lcc, lcda, hvs, hfile, har, ear, sk, sco, sgen, sc2, sc3, ss, sc, sself, spar⟩ := F.ex
  have KX : K.In s.heap := e0.mod.kin.keeps fun b o e => (e0.bs b o e).1
  have lim : s.heap.NoLimit := e0.mod.nolimit.keeps fun b o e => (e0.bs b o e).1
  refine PySem.ks_codeAny_call_defAt (binds := [("self" : Str), par].zip us) hr.depth (KX _ _ lk) rfl lim (PySem.W.codeRec_of KX hcd) rfl hb sc2 (fun y hy => ?_) (fun h1 hns kp => ?_) sco sgen sk
  · have := (List.of_mem_zip hy).1
    simp only [List.mem_cons, List.not_mem_nil, or_false] at this
    rcases this with e | e <;> rw [e]
    · exact sself
    · exact spar
  have I : Inv (cxX P w K mg base [("self" : Str), par] qual scope f cda cc A outer s H) [] (L2.start [("self" : Str), par] [.ref a, v]) H { s with heap := h1, toks := s.toks + ([("self" : Str), par].zip us).length } :=
    inv_startX rfl hp hr.hd e0 rfl r sk sc2 sc3 lcc hns kp sself spar
  generalize htk : s.toks + ([("self" : Str), par].zip us).length = tk0 at I ⊢
  obtain ⟨u1, rfl⟩ : ∃ u1, us = [.ref a, u1] := by
    cases r with | cons r0 r' => cases r' with | cons r1 r2 => cases r2; cases r0; exact ⟨_, rfl⟩
  obtain ⟨t1, hx⟩ := exo_at I.hok ha
  obtain ⟨nm, q, N, bs, bm, sn, sub, ab, col, dd, k0, k1, k2, k3, k5, hC, hbm⟩ := id T.ox.cls
  obtain ⟨cd, hcdC⟩ := T.up
  obtain ⟨mb, hb1, hb2⟩ := I.mod.blt
  obtain ⟨h0, g, d, tk, os⟩ := s
  have n2 : (("self" : Str) == par) = false := beq_eq_false_iff_ne.mpr hp
  have XK : K.In h1 := KX.keeps kp
  show PySem.wpAt (model P w) (A.deeper (xEnv qual scope h0.objs.size f cda cc)) (.func _ (xEnv qual scope h0.objs.size f cda cc)) (execs _ (xEnv qual scope h0.objs.size f cda cc)) _ _ _
  refine PySem.ks_wpAt_execs_cons ?_
  refine PySem.ks_wpAt_Expr_any (hi := by simp [interactive, sk]) ?_
  refine PySem.ks_wpAt_MethodCall (he := super_call hpos) ?_
  refine PySem.ks_wpAt_super_base ss sc rfl rfl (XK _ _ lk) rfl har rfl (XK _ _ lcda) rfl hvs hfile T.top ?_
  refine PySem.W.ks_loadName_global sk ss (Calls.loadGlobal_builtin (env := xEnv qual scope h0.objs.size f cda cc) (I.mod.glob.keeps I.bk) T.mgS (hb1.keeps I.bk) ((hb2 "super" (by decide)).trans (by decide +kernel : bootBuiltins "super" = some (.type "super"))) ⟨rfl, ?_⟩)
  refine wpAny_loadName_free sk sc rfl ⟨_, XK _ _ lcc, rfl⟩ ?_
  refine wpAny_loadName_local sk (by rw [ear]; exact sself) hns (v := .ref a) (by rw [ear]; show List.lookup ("self" : Str) [(par, u1), (("self" : Str), .ref a)] = _; simp [List.lookup, n2]) ?_
  refine PySem.ks_wpAny_isType_cls (XK _ _ hC) rfl ⟨rfl, ?_⟩
  refine PySem.ks_wpAny_call_super (XK _ _ hC) rfl hx rfl (fun c z => by cases z) (PySem.W.looks_mroIn XK T.su) (fun h2 es k2' => ?_)
  have X2 : K.In h2 := XK.keeps k2'
  have I2 := I.kept (t' := tk0) k2'
  have J2 : PySem.W.InstAt h2 a { cls := .ref C, dict := none, data := .fields #[.ref t1, .none, .none, .none, .bool false, .none] } C none := ⟨k2' _ _ hx, rfl, rfl, trivial⟩
  have hal := T.al
  unfold PySem.W.ks_superIn at hal
  rw [hcdC, Option.bind_some] at hal
  refine PySem.W.kxs_getMethod PySem.W.kxs_ValueError es (PySem.W.looks_opaque X2 T.op) (l₀ := cd.mro) (fun A Q E s k q => wpAny_bind ((PySem.W.looks_clsIn X2 hcdC) A _ E s k (wpAny_pure q))) rfl X2 hal
    (J2.type.andThen (PySem.W.looks_subIn X2 T.ve)) (PySem.W.ks_ne X2 J2 hcdC) rfl ?_
  have k3' : ∀ b o, h2.get? b = some o → (h2.push (PySem.W.kxs_mw "ValueError.__init__" a)).get? b = some o := fun b o e => Heap.get?_push_of_some _ e
  have I3 := I2.kept (t' := tk0 + 1) k3'
  have hu3 : (h2.push (PySem.W.kxs_mw "ValueError.__init__" a)).get? h2.objs.size = some (PySem.W.kxs_mw "ValueError.__init__" a) := Heap.get?_push_size _ rfl
  refine PySem.W.kxs_callWith (i := "ValueError.__init__") (x := a) rfl (Calls.evalArgs_plain (Calls.spliced_cons (wpAny_Constant_str (k := j) (pos := p3) (Calls.spliced_nil ⟨hu3, ?_⟩))))
  refine call_mwVE T.ox (I3.tok _) ha hu3 (by show 1 ≤ sizeLine; decide) fun s4 I4 => ?_
  refine PySem.wpAt_of_wpAny ?_
  refine wpAny_mono ((L2.PSs.run (pss_one (ps_ost (pe_var (i := 0) rfl (.inl sself)) (pe_var (i := 1) rfl (.inl spar) hpd hpc)))) [] s4 _ H { nx := fun _ H' => Q .non H', rt := Q } I4 ?_) (fun fl s' hs => ?_) fun e s' z => False.elim z
  · exact ⟨v, rfl, _, rfl, a, C, rfl, T.ox, T.no, .inl ⟨ha, k⟩⟩
  · cases fl with
    | next =>
      obtain ⟨σ', H', J, q'⟩ := hs
      exact ⟨.non, H', J.os, J.bare, J.base, J.hok, rfl, q'⟩
    | ret u =>
      obtain ⟨v', σ', H', J, rv, q'⟩ := hs
      exact ⟨v', H', J.os, J.bare, J.base, J.hok, rv, q'⟩
    | brk => obtain ⟨_, _, _, z⟩ := hs; exact z.elim
    | cont => obtain ⟨_, _, _, z⟩ := hs; exact z.elim
end
end HN

/-! Several clauses, each with a name for the error: the same name in all of them. -/
namespace HN
open PySem PySem.Spec PyProof.Rows L2
/-- the ends of a suite that begins with the error in slot i: behind it the slot is empty -/
abbrev offI (D : Ends) (i : Nat) : Ends := { nx := fun z u => D.nx (z.set i none) u, rt := D.rt, bk := fun z u => D.bk (z.set i none) u, ct := fun z u => D.ct (z.set i none) u }
def wManyAs (K : PySem.W.Frag) (Wo : WX) (i : Nat) (D : Ends) : List (Value × (Addr → Value → Option Addr → TS)) → WX
  | [] => Wo
  | (c, ts) :: r => fun cls d σ H => ∃ b, PySem.W.exmOne K cls c = some b ∧ (b = true → ∀ a, H a = none → ts a cls d (offI D i) (σ.set i (some (.ref a))) H) ∧ (b = false → wManyAs K Wo i D r cls d σ H)
inductive HdsAs (X : Cx) (n : Str) : List ExceptHandler → List (Value × (Addr → Value → Option Addr → TS)) → Prop
  | nil : HdsAs X n [] []
  | cons {x : Str} {c : Value} {ts : Addr → Value → Option Addr → TS} {b0 : Stmt} {suite : List Stmt} {np po : Pos} {hds : List ExceptHandler} {l : List (Value × (Addr → Value → Option Addr → TS))} (hc : Names X x c)
      (hsu : ∀ (a : Addr) (oe : Obj) (cls : Value) (d : Option Addr) (pn : List (Addr × Obj)), Zc cls d oe → (∃ vs, oe.data = .fields vs) → PSs (X.suite a ((a, oe) :: pn)) (b0 :: suite) (ts a cls d)) (r : HdsAs X n hds l) :
      HdsAs X n (.ExceptHandler (some (.Name x np)) (some n) (b0 :: suite) po :: hds) ((c, ts) :: l)
section
variable {X : Cx} {n : Str} {i : Nat} {body : List Stmt} {h0 : ExceptHandler} {hds : List ExceptHandler} {l : List (Value × (Addr → Value → Option Addr → TS))} {pos : Pos} {tb : WX → TS} {Wo : WX}
theorem ps_try_manyAs (st : X.stack = X.env :: X.outer) (fr : X.env.frame = some X.env.locals) (nd : X.N.Nodup) (hi : X.N[i]? = some n) (ln : X.env.kindOf n = some .local) (tk : Takes X Wo)
    (hb : ∀ (W : WX) (pn : List (Addr × Obj)) (xe : Value → Shared → Prop), Takes (X.tr pn xe) W → PassesOwn (model X.prog X.w) X.A X.env xe → PSs (X.tr pn xe) body (tb W))
    (hh : HdsAs X n (h0 :: hds) l) : PS X (.Try body (h0 :: hds) [] [] pos) (fun D σ H => tb (wManyAs X.K Wo i D l) D σ H) := by
  refine ⟨fun pins s σ H D I rd => ?_⟩
  have ok := I.ok
  have afr : X.A.frames = some (X.env :: X.outer) := ok.frames.trans (by rw [st])
  let after : Value → Shared → Prop := fun e t1 => wpAny (model X.prog X.w) X.A (noteFrame e X.env) (fun _ t2 => wpAny (model X.prog X.w) X.A (setFlight e none) (fun _ t3 => wpAny (model X.prog X.w) X.A (handleBy e X.env (h0 :: hds)) (SP X pins D) X.xe t3) X.xe t2) X.xe t1
  refine wpAny_Try_except (wpAny_mono ((hb (wManyAs X.K Wo i D l) (X.pn ++ pins) after (fun u t xx => ?_) PassesOwn.looking).run [] s σ H D (I.toTry _) rd) (fun f t hsp => ?_) fun e t he => he)
  · obtain ⟨a, B, sI, pins', σ', H', cls, d, rfl, J0, nb, up, sky, na, os, ag, w⟩ := xx
    have J : Inv X pins σ' H' sI := J0.ofTry ok
    show wpAny (model X.prog X.w) X.A (noteFrame (.ref a) X.env) _ _ _
    refine Sky.land Zc.steady afr fr (show Sky B (X.env :: X.outer) a (Zc cls d) X.env.locals t.heap by rw [← st]; exact sky) fun g1 fl1 up1 => ?_
    have J1 : Inv X pins σ' H' { t with heap := g1 } := J.landed nb fl1.1 (up.trans up1) os ag
    obtain ⟨o1, vs1, e1, z1, d1⟩ := fl1.there
    have far : a ∉ frs (X.env :: X.outer) := fun hm => by
      obtain ⟨_, o', e', nf⟩ := fl1.2.2.1.mem hm
      rw [e1] at e'; cases e'; exact nf _ d1
    have nL : a ≠ X.env.locals := fun z => far (List.mem_filterMap.mpr ⟨X.env, List.mem_cons_self, by rw [fr, z]⟩)
    have nF : a ∉ X.fs := fun hm => let ⟨e, he, q⟩ := List.mem_filterMap.mp hm; far (List.mem_filterMap.mpr ⟨e, List.mem_cons_of_mem _ he, q⟩)
    have S1 := J1.suite e1 d1 na nL nF
    have LT : PySem.W.Looks (model X.prog X.w) g1 (typeOf (.ref a)) cls := fun A Q E s k q => wpAny_typeOf_ref (k _ _ e1) (by rw [z1.1]; exact q)
    have go : ∀ {hl : List ExceptHandler} {l' : List (Value × (Addr → Value → Option Addr → TS))}, HdsAs X n hl l' → wManyAs X.K Wo i D l' cls d σ' H' → wpAny (model X.prog X.w) X.A (handleBy (.ref a) X.env hl) (SP X pins D) X.xe { t with heap := g1 } := by
      intro hl l' hk
      induction hk with
      | nil =>
        intro w
        obtain ⟨k1, k2, k3, oe, vs, T, oT, ts', he, hz, hd, hT, hr⟩ := id fl1
        refine wpAny_handleBy_nil ?_
        unfold PySem.passOn
        refine wpAny_bind (wpAny_field he hd hT ?_)
        rw [if_neg (by simp : ¬ ((Value.ref T == Value.none) = true))]
        have out : wpAny (model X.prog X.w) X.A (setFlight (.ref a) X.env.frame) (fun _ t4 => wpAny (model X.prog X.w) X.A (throw (.ref a) : Sem Flow) (SP X pins D) X.xe t4) X.xe { t with heap := g1 } := by
          rw [fr]
          exact HandSPX.setFlight_upZ fl1 fun g2 hh2 up2 => wpAny_throw (tk _ _ ⟨a, B, sI, pins, σ', H', cls, d, rfl, J, nb, (up.trans up1).trans up2, .inr (.inr (by rw [st]; exact hh2)), na, os, ag, w⟩)
        first
          | exact wpAny_bind (wpAny_pure (wpAny_bind out))
          | exact wpAny_bind out
      | @cons x c ts b0 suite np po hl2 l2 hc hsu r ih =>
        intro w
        obtain ⟨b, hb1, yes, no⟩ := w
        refine wpAny_handleBy_cons (codeAny_handlers_test ?_) (by intro q; cases q)
        have LM := PySem.W.exm_one (M := model X.prog X.w) J1.kIn LT hb1
        have ask : ∀ {Q : Value → Shared → Prop} {E : Value → Shared → Prop}, Q c { t with heap := g1 } → wpAny (model X.prog X.w) (X.A.mark (some (.ref a))) (eval (.Name x np) X.env) Q E { t with heap := g1 } := fun {Q E} q => by
          obtain ⟨hg, hdbg, hm | ⟨hm, hv, hnn⟩⟩ := hc
          · exact ld_glob (X := X.suite a ((a, o1) :: (X.pn ++ pins))) S1 hg hm q hdbg
          · exact ld_blt (X := X.suite a ((a, o1) :: (X.pn ++ pins))) S1 hg hm hv q hnn hdbg
        refine ask (LM.here ?_)
        cases b with
        | false => exact ih (no rfl)
        | true =>
          refine codeAny_handlers_suite_as (HandSPX.lands_againZ fl1 fun g2 fl2 up2 => ?_)
          have J2 : Inv X pins σ' H' { t with heap := g2 } := J.landed nb fl2.1 ((up.trans up1).trans up2) os ag
          obtain ⟨o2, vs2, e2, z2, d2⟩ := fl2.there
          refine store_ok (X := X.suite a ((a, o2) :: (X.pn ++ pins))) (v := .ref a) (J2.suite e2 d2 na nL nF) nd hi (.inl ln) rfl (fun s5 S5 => ?_) (.inr ln)
          refine wpAny_mono ((hsu a o2 cls d (X.pn ++ pins) z2 ⟨_, d2⟩).run [] s5 _ H' _ S5 (yes rfl a na)) (fun f s6 hsp => ?_) (fun _ _ z => False.elim z)
          have fin : ∀ {z6 : L2.St} {H6 : Hp} {Q : Shared → Prop}, Inv (X.suite a ((a, o2) :: (X.pn ++ pins))) [] z6 H6 s6 → (∀ s7, Inv X pins (z6.set i none) H6 s7 → Q s7) →
              wpAny (model X.prog X.w) X.A (do bindName X.env n .none; unbindBehindTheSuite X.env n po) (fun _ s7 => Q s7) X.xe s6 := fun S6 hq => gone_ok (S6.unsuite ok) nd hi ln hq
          cases f with
          | next => obtain ⟨_, _, S6, q6⟩ := hsp; exact fin S6 fun s7 J7 => ⟨_, _, J7, q6⟩
          | brk => obtain ⟨_, _, S6, q6⟩ := hsp; exact fin S6 fun s7 J7 => ⟨_, _, J7, q6⟩
          | cont => obtain ⟨_, _, S6, q6⟩ := hsp; exact fin S6 fun s7 J7 => ⟨_, _, J7, q6⟩
          | ret u => obtain ⟨_, _, _, S6, r6, q6⟩ := hsp; exact fin S6 fun s7 J7 => ⟨_, _, _, J7, r6, q6⟩
    exact go hh w
  · cases f with
    | next => obtain ⟨_, _, J, q⟩ := hsp; exact wpAny_execs_nil ⟨_, _, J.ofTry ok, q⟩
    | brk => obtain ⟨_, _, J, q⟩ := hsp; exact ⟨_, _, J.ofTry ok, q⟩
    | cont => obtain ⟨_, _, J, q⟩ := hsp; exact ⟨_, _, J.ofTry ok, q⟩
    | ret u => obtain ⟨_, _, _, J, r, q⟩ := hsp; exact ⟨_, _, _, J.ofTry ok, r, q⟩
end
/-- what an own error's making asks, read at a value -/
theorem mkO_read {C : Addr} {fld : Str} {v : V} {H : Hp} {Q : L2.XK} (h : ∀ d, H d = none → Q (.ref C) (some d) (upd H d (.xd [(fld, v)]))) :
    [v].length ≤ 1000 ∧ ∀ a, H a = none → spXInit C fld (.ref a :: ([v] ++ [])) (upd H a (exo a C none)) (fun y H2 => y = .non ∧ ∃ (d : Addr) (fs : List (Str × V)), H2 a = some (exo a C (some d)) ∧ H2 d = some (exd d fs) ∧ H d = none ∧ Q (.ref C) (some d) (upd (del H2 a) d (.xd fs))) (fun _ _ _ => False) := by
  refine ⟨by show 1 ≤ 1000; decide, fun a na => ⟨a, v, rfl, upd_same, fun d nd ne => ⟨rfl, d, [(fld, v)], upd_same, by rw [upd_ne ne, upd_same], ?_, ?_⟩⟩⟩
  · rw [upd_ne ne] at nd; exact nd
  · have e : upd (del (upd (upd (upd H a (exo a C none)) d (exd d [(fld, v)])) a (exo a C (some d))) a) d (.xd [(fld, v)]) = upd H d (.xd [(fld, v)]) := funext fun b => by
      by_cases hb : b = d
      · rw [hb, upd_same, upd_same]
      · rw [upd_ne hb, upd_ne hb]
        by_cases ha : b = a
        · rw [ha, del_same, na]
        · rw [del_ne ha, upd_ne ha, upd_ne hb, upd_ne ha]
    rw [e]
    rw [upd_ne ne] at nd; exact h d nd
end HN

namespace HN
open PySem L2
def top (i : Nat) : Stmt := PySem.Challenge.pw_heldnotes_k11_devices_refuse.main.body.getD i (.Pass ⟨0, 0, 0, 0⟩)
abbrev sWall : Stmt := top 0
abbrev sHelderror : Stmt := top 2
abbrev sBadstates : Stmt := top 3
abbrev sBadsorts : Stmt := top 4
abbrev sBadfirst : Stmt := top 5
abbrev sBadrow : Stmt := top 6
abbrev sBadworth : Stmt := top 7
abbrev sBadkey : Stmt := top 8
abbrev sBadsort : Stmt := top 9
abbrev sBadnumber : Stmt := top 10
abbrev sNoletter : Stmt := top 11
abbrev sIsList : Stmt := top 13
abbrev sIsInt : Stmt := top 14
abbrev sIsIntWithin : Stmt := top 15
abbrev sIsWord : Stmt := top 16
abbrev sIsWordList : Stmt := top 17
abbrev sAgeOf : Stmt := top 21
abbrev sIdle : Stmt := top 22
abbrev sIsKey : Stmt := top 23
abbrev sIsStep : Stmt := top 24
abbrev sIsEffect : Stmt := top 25
abbrev sToldEffects : Stmt := top 26
abbrev sToldWorths : Stmt := top 27
abbrev sBook : Stmt := top 28
abbrev sCheckKey : Stmt := top 30
abbrev sCheckLetter : Stmt := top 31
abbrev sDevice : Stmt := top 32
abbrev sSource : Stmt := top 34
abbrev sDraw : Stmt := top 35
abbrev sPick : Stmt := top 36
abbrev sSame : Stmt := top 37
abbrev sWords : Stmt := top 38
abbrev sEffect : Stmt := top 39
abbrev sSteps : Stmt := top 40
abbrev sWild : Stmt := top 41
abbrev sNear : Stmt := top 42
abbrev sPlan : Stmt := top 43
abbrev sBookOf : Stmt := top 44
abbrev sLSomeRow : Stmt := top 45
abbrev sLTried : Stmt := top 46
abbrev sLDue : Stmt := top 47
abbrev sLaw : Stmt := top 48
end HN

namespace HN
open PySem L2
/-! ### draws -/
/-- the draws' list stands at d -/
def Dr (H : Hp) (d : Addr) : Prop := ∃ a b c : Int, H d = some (.lst [.int a, .int b, .int c])
def But (d : Addr) (H H' : Hp) : Prop := ∀ b o, b ≠ d → H b = some o → H' b = some o
theorem But.refl (d : Addr) (H : Hp) : But d H H := fun _ _ _ h => h
theorem But.trans {d : Addr} {H H1 H2 : Hp} (a : But d H H1) (b : But d H1 H2) : But d H H2 := fun c o n h => b c o n (a c o n h)
theorem But.of {d : Addr} {H H' : Hp} (s : Same H H') : But d H H' := fun b o _ h => s b o h
theorem But.upd {d : Addr} {H : Hp} {o : HO} : But d H (upd H d o) := fun b u n h => by rw [upd_ne n]; exact h
theorem same_new {H : Hp} {p : Addr} {o : HO} (hp : H p = none) : Same H (upd H p o) := fun b u e => by rw [upd_ne (ne_of_none e hp)]; exact e
/-- a def of the top: where it stands, and how its arguments bind -/
structure Def (K : PySem.W.Frag) (mg : Str → Option Value) (x : Str) (st : Stmt) (ps : List Str) (f : Addr) (fd : FuncData) : Prop where
  F : Fun K x x st f fd
  m : mg x = some (.ref f)
  b : Binds K fd ps []
structure Txt (K : PySem.W.Frag) (mg : Str → Option Value) : Prop where
  str : mg "str" = none
  dict : mg "dict" = none
  set : mg "set" = none
  sorted : mg "sorted" = none
  range : mg "range" = none
  min : mg "min" = none
  sum : mg "sum" = none
  len : mg "len" = none
  int : mg "int" = none
  isi : mg "isinstance" = none
  all : mg "all" = none
  zip : mg "zip" = none
  list : mg "list" = none
  tuple : mg "tuple" = none
  bool : mg "bool" = none
def spSource (K : PySem.W.Frag) : Sp := fun vs H Q _ => ∃ (a : Addr) (ns : List Int) (k : Int), vs = [.ref a, .int k] ∧ SqL K H a (ns.map V.int) ∧ 0 ≤ k ∧ k ≤ 1000 ∧ ∀ d H', Dr H' d → H d = none → Same H H' → Q (.ref d) H'
def spDraw : Sp := fun vs H Q _ => ∃ (d : Addr) (m : Int), vs = [.ref d, .int m] ∧ Dr H d ∧ 0 < m ∧ m ≤ 1000 ∧ ∀ r H', 0 ≤ r → r < m → Dr H' d → But d H H' → Q (.int r) H'
section
variable {P : Program} {w : World} {K : PySem.W.Frag} {mg : Str → Option Value} {base : Heap}
theorem scDraw : FnScope ["_law_draws", "_law_many", "_law_found"] ["_law_draws", "_law_many"] (defScope sDraw) := ⟨rfl, rfl, rfl, by decide +kernel, rfl, by decide +kernel, by decide +kernel⟩
theorem ok_draw {f : Addr} {fd : FuncData} (F : Fun K "_law_draw" "_law_draw" sDraw f fd) (T : Txt K mg) : FnOk P w K mg base CX0 1 f fd ["_law_draws", "_law_many"] spDraw := by
  refine F.ok scDraw (fun vs H Q E h => ?_) (fun cdv A outer s H vs Q E hr h => ?_)
  · obtain ⟨d, m, rfl, _⟩ := h
    rfl
  · obtain ⟨d, m, rfl, ⟨a, b, c, hd⟩, h0, h1, k⟩ := h
    refine ⟨_, pss_cons (ps_if (pt_cmpR op_gt (pe_ix ix_list (pv 0) pe_int (fun _ _ => rfl)) pe_int (nomark _))
        (pss_cons (ps_set (i := 2) scDraw.nd rfl (Or.inl rfl) (pe_op op_mod (pe_callTy call_int1 (by rfl) T.int (by decide +kernel) (pa_cons (pe_ix ix_list (pv 0) pe_int (fun _ _ => rfl)) pa_nil)) (pv 1)))
        (pss_cons (ps_asg (pe_op op_fdiv (pe_ix ix_list (pv 0) pe_int (fun _ _ => rfl)) (pv 1)) (pg_sub (pv 0) pe_int set_list))
        (pss_one (ps_ret (pv 2))))) pss_nil)
      (pss_cons (ps_asg (pe_op op_add (pe_ix ix_list (pv 0) pe_int (fun _ _ => rfl)) pe_int) (pg_sub (pv 0) pe_int set_list))
      (pss_cons (ps_asg (pe_op op_mod (pe_callTy call_int1 (by rfl) T.int (by decide +kernel) (pa_cons (pe_op op_add (pe_op op_add (pe_op op_mul (pe_ix ix_list (pv 0) pe_int (fun _ _ => rfl)) pe_int) (pe_op op_mul (pe_ix ix_list (pv 0) pe_int (fun _ _ => rfl)) pe_int)) pe_int) pa_nil)) pe_int) (pg_sub (pv 0) pe_int set_list))
      (pss_one (ps_ret (pe_op op_mod (pe_callTy call_int1 (by rfl) T.int (by decide +kernel) (pa_cons (pe_op op_add (pe_op op_fdiv (pe_ix ix_list (pv 0) pe_int (fun _ _ => rfl)) pe_int) (pe_ix ix_list (pv 0) pe_int (fun _ _ => rfl))) pa_nil)) (pv 1)))))), ?_⟩
    refine ⟨_, rfl, d, _, 0, _, rfl, rfl, SqL.of hd, rfl, _, _, rfl, rfl, _, rfl, ?_⟩
    refine ite2 (fun _ => ?_) (fun _ => ?_)
    · refine ⟨_, rfl, d, _, 0, _, rfl, rfl, SqL.of hd, rfl, .inl ⟨_, rfl, ?_⟩⟩
      refine ⟨_, rfl, _, _, rfl, rfl, h0, ?_⟩
      refine ⟨_, rfl, d, _, 0, _, rfl, rfl, SqL.of hd, rfl, _, rfl, _, _, rfl, rfl, ⟨h0, by omega⟩, ?_⟩
      refine ⟨_, rfl, d, _, 0, 0, rfl, rfl, hd, rfl, ?_⟩
      refine ⟨_, rfl, ?_⟩
      exact k _ _ (Int.emod_nonneg _ (by omega)) (Int.emod_lt_of_pos _ h0) ⟨_, _, _, upd_same⟩ But.upd
    · refine ⟨_, rfl, d, _, 2, _, rfl, rfl, SqL.of hd, rfl, _, _, rfl, rfl, ?_⟩
      refine ⟨_, rfl, d, _, 2, 2, rfl, rfl, hd, rfl, ?_⟩
      refine ⟨_, rfl, d, _, 1, _, rfl, rfl, SqL.of upd_same, rfl, _, _, rfl, rfl, .inr (by decide), ?_⟩
      refine ⟨_, rfl, d, _, 2, _, rfl, rfl, SqL.of upd_same, rfl, _, _, rfl, rfl, .inr (by decide), ?_⟩
      refine ⟨_, _, rfl, rfl, _, _, rfl, rfl, .inl ⟨_, rfl, ?_⟩⟩
      refine ⟨_, _, rfl, rfl, by show (0 : Int) < 2147483647; decide, ?_⟩
      refine ⟨_, rfl, d, _, 1, 1, rfl, rfl, upd_same, rfl, ?_⟩
      refine ⟨_, rfl, d, _, 1, _, rfl, rfl, SqL.of upd_same, rfl, _, _, rfl, rfl, ⟨by decide, by decide⟩, ?_⟩
      refine ⟨_, rfl, d, _, 1, _, rfl, rfl, SqL.of upd_same, rfl, _, _, rfl, rfl, .inl ⟨_, rfl, ?_⟩⟩
      refine ⟨_, rfl, _, _, rfl, rfl, h0, ?_⟩
      exact k _ _ (Int.emod_nonneg _ (by omega)) (Int.emod_lt_of_pos _ h0) ⟨_, _, _, upd_same⟩ (But.upd.trans But.upd)
theorem scSource : FnScope ["_law_script", "_law_place", "_law_cell"] ["_law_script", "_law_place"] (defScope sSource) := ⟨rfl, rfl, rfl, by decide +kernel, rfl, by decide +kernel, by decide +kernel⟩
theorem ok_source {f : Addr} {fd : FuncData} (F : Fun K "_law_source" "_law_source" sSource f fd) (T : Txt K mg) : FnOk P w K mg base CX0 1 f fd ["_law_script", "_law_place"] (spSource K) := by
  refine F.ok scSource (fun vs H Q E h => ?_) (fun cdv A outer s H vs Q E hr h => ?_)
  · obtain ⟨a, ns, k, rfl, _⟩ := h
    rfl
  · obtain ⟨a, ns, i, rfl, hS, h0, h1, k⟩ := h
    refine ⟨_, pss_cons (ps_set (i := 2) scSource.nd rfl (Or.inl rfl) (pe_ifExp (pt_cmpR op_lt (pv 1) (pe_callB call_len_seq (by rfl) T.len PySem.boot_len (pa_cons (pv 0) pa_nil)) (nomark _)) (pe_ix ix_list (pv 0) (pv 1) (fun _ _ => rfl))
        (pe_op op_add (pe_op op_mul pe_int (pv 1)) pe_int)))
      (pss_one (ps_ret (pe_lst (pa_cons (pe_ifExp (pt_cmpR op_ge (pv 2) (pe_op op_pow pe_int pe_int) (nomark _)) (pv 2) pe_int)
        (pa_cons (pe_op op_mod (pe_callTy call_int1 (by rfl) T.int (by decide +kernel) (pa_cons (pv 2) pa_nil)) pe_int) (pa_cons pe_int pa_nil)))))), ?_⟩
    have rest : ∀ z : Int, tRet (tLst (tCons (tIf (tTest (tOp (rI0 fun i j => .bl (decide (j ≤ i))) (tVar 2) (tOp (rI CPow fun i j => .int (i ^ j.toNat)) (tC (.int 10)) (tC (.int 18))))) (tVar 2) (tC (.int 0)))
        (tCons (tOp (rI (fun _ j => 0 < j) fun i j => .int (i % j)) (tCB (fun xs H Q => (∃ i, xs = [.int i] ∧ Q (.int i) H) ∨ ∃ k, xs = [.bl k] ∧ Q (.int (if k then 1 else 0)) H) (tCons (tVar 2) tNil)) (tC (.int 2147483647))) (tCons (tC (.int 0)) tNil))))
        { nx := fun _ H' => Q .non H', rt := Q } [some (.ref a), some (.int i), some (.int z)] H := by
      intro z
      refine ⟨_, rfl, _, _, rfl, rfl, ⟨by decide, by decide, by decide⟩, _, _, rfl, rfl, _, rfl, ?_⟩
      refine ite2 (fun _ => ?_) (fun _ => ?_)
      · refine ⟨_, rfl, _, rfl, .inl ⟨_, rfl, _, _, rfl, rfl, (by show (0 : Int) < 2147483647; decide), ?_⟩⟩
        refine ⟨by show 3 ≤ sizeLine; decide, fun p hp => ?_⟩
        exact k p _ ⟨_, _, _, upd_same⟩ hp (same_new hp)
      · refine ⟨_, rfl, .inl ⟨_, rfl, _, _, rfl, rfl, (by show (0 : Int) < 2147483647; decide), ?_⟩⟩
        refine ⟨by show 3 ≤ sizeLine; decide, fun p hp => ?_⟩
        exact k p _ ⟨_, _, _, upd_same⟩ hp (same_new hp)
    refine ⟨_, rfl, _, rfl, a, _, rfl, .inl hS, _, _, rfl, rfl, _, rfl, ?_⟩
    refine ite2 (fun hlt => ?_) (fun _ => ?_)
    · have hlt' := of_decide_eq_true hlt
      rw [List.length_map] at hlt'
      obtain ⟨j, rfl⟩ : ∃ j : Nat, i = (j : Int) := ⟨i.toNat, (Int.toNat_of_nonneg h0).symm⟩
      have hj : j < ns.length := by omega
      refine ⟨_, rfl, _, rfl, a, _, _, _, rfl, rfl, hS, atI_nat (v := V.int ns[j]) (by rw [List.getElem?_map, List.getElem?_eq_getElem hj]; rfl), ?_⟩
      exact rest _
    · refine ⟨_, rfl, _, _, rfl, rfl, .inl (by decide), _, _, rfl, rfl, ?_⟩
      exact rest _
end
end HN

namespace HN
open PySem L2
/-! ### pick -/
def spPick (K : PySem.W.Frag) : Sp := fun vs H Q _ => ∃ (d l : Addr) (xs : List V), vs = [.ref d, .ref l] ∧ Dr H d ∧ SqL K H l xs ∧ l ≠ d ∧ 0 < xs.length ∧ xs.length ≤ 1000 ∧
  ∀ (r : Nat) (v : V) H', xs[r]? = some v → Dr H' d → But d H H' → Q v H'
theorem But.seq {K : PySem.W.Frag} {d : Addr} {H H' : Hp} {a : Addr} {xs : List V} (e : But d H H') (hn : a ≠ d) (h : SqL K H a xs) : SqL K H' a xs := by
  rcases h with (h | ⟨o, h⟩) | h
  · exact .inl (.inl (e _ _ hn h))
  · exact .inl (.inr ⟨o, e _ _ hn h⟩)
  · exact .inr h
theorem But.seqT {K : PySem.W.Frag} {d : Addr} {H H' : Hp} {a : Addr} {xs : List V} (e : But d H H') (hn : a ≠ d) (h : SqT K H a xs) : SqT K H' a xs := by
  rcases h with (h | ⟨o, h⟩) | h
  · exact .inl (.inl (e _ _ hn h))
  · exact .inl (.inr ⟨o, e _ _ hn h⟩)
  · exact .inr h
theorem Same.seqT {K : PySem.W.Frag} {H H' : Hp} {a : Addr} {xs : List V} (e : Same H H') (h : SqT K H a xs) : SqT K H' a xs := by
  rcases h with (h | ⟨o, h⟩) | h
  · exact .inl (.inl (e _ _ h))
  · exact .inl (.inr ⟨o, e _ _ h⟩)
  · exact .inr h
section
variable {P : Program} {w : World} {K : PySem.W.Frag} {mg : Str → Option Value} {base : Heap}
theorem scPick : FnScope ["_law_draws", "_law_xs"] ["_law_draws", "_law_xs"] (defScope sPick) := ⟨rfl, rfl, rfl, by decide +kernel, rfl, by decide +kernel, by decide +kernel⟩
theorem ok_pick {f fD : Addr} {fd fdD : FuncData} (F : Fun K "_law_pick" "_law_pick" sPick f fd) (T : Txt K mg) (G : FnOk P w K mg base CX0 1 fD fdD ["_law_draws", "_law_many"] spDraw) (mD : mg "_law_draw" = some (.ref fD)) (kD : PySem.W.keepIn K (.ref fD) = true)
    (bD : Binds K fdD ["_law_draws", "_law_many"] []) : FnOk P w K mg base CX0 2 f fd ["_law_draws", "_law_xs"] (spPick K) := by
  refine F.ok scPick (fun vs H Q E h => ?_) (fun cdv A outer s H vs Q E hr h => ?_)
  · obtain ⟨d, l, xs, rfl, _⟩ := h
    rfl
  · obtain ⟨d, l, xs, rfl, hd, hl, hn, h0, h1, k⟩ := h
    refine ⟨_, pss_one (ps_ret (pe_ix ix_list (pv 1) (pe_call G hr (by rfl) mD kD bD .nil pass0 (pa_cons (pv 0) (pa_cons (pe_callB call_len_seq (by rfl) T.len PySem.boot_len (pa_cons (pv 1) pa_nil)) pa_nil))) (fun _ _ => rfl))), ?_⟩
    refine ⟨_, rfl, _, rfl, _, rfl, l, xs, rfl, .inl hl, d, _, rfl, hd, by omega, by omega, fun r H' r0 r1 hd' hb => ?_⟩
    obtain ⟨j, rfl⟩ : ∃ j : Nat, r = (j : Int) := ⟨r.toNat, (Int.toNat_of_nonneg r0).symm⟩
    have hj : j < xs.length := by omega
    refine ⟨l, xs, _, _, rfl, rfl, hb.seq hn hl, atI_nat (List.getElem?_eq_getElem hj), ?_⟩
    exact k j _ H' (List.getElem?_eq_getElem hj) hd' hb
end
/-! ### same -/
mutual
def dep : PyData → Nat
  | .list ds => depL ds + 1
  | .tuple ds => depL ds + 1
  | _ => 0
def depL : List PyData → Nat
  | [] => 0
  | d :: ds => max (dep d) (depL ds)
end
mutual
def wd : PyData → Nat
  | .list ds => max ds.length (wdL ds)
  | .tuple ds => max ds.length (wdL ds)
  | _ => 0
def wdL : List PyData → Nat
  | [] => 0
  | d :: ds => max (wd d) (wdL ds)
end
theorem wdL_get : ∀ {ds : List PyData} {i : Nat} {d : PyData}, ds[i]? = some d → wd d ≤ wdL ds
  | [], i, d, e => by simp at e
  | x :: ds, 0, d, e => by
    simp at e; subst e
    rw [wdL]; omega
  | x :: ds, i + 1, d, e => by
    have := wdL_get (i := i) (ds := ds) (by simpa using e)
    rw [wdL]; omega
mutual
def sm : PyData → PyData → Bool
  | .none, .none => true
  | .str x, .str y => decide (x = y)
  | .bool x, .bool y => decide (x = y)
  | .int x, .int y => decide (x = y)
  | .list xs, .list ys => smL xs ys
  | .tuple xs, .tuple ys => smL xs ys
  | _, _ => false
def smL : List PyData → List PyData → Bool
  | [], [] => true
  | x :: xs, y :: ys => sm x y && smL xs ys
  | _, _ => false
end
theorem smL_len : ∀ (xs ys : List PyData), smL xs ys = true → xs.length = ys.length
  | [], [], _ => rfl
  | [], _ :: _, h => by simp [smL] at h
  | _ :: _, [], h => by simp [smL] at h
  | x :: xs, y :: ys, h => by
    rw [smL, Bool.and_eq_true] at h
    rw [List.length_cons, List.length_cons, smL_len xs ys h.2]
theorem smL_zip : ∀ (xs ys : List PyData), xs.length = ys.length → smL xs ys = ((List.zipWith sm xs ys).all id)
  | [], [], _ => by simp [smL]
  | [], _ :: _, h => by simp at h
  | _ :: _, [], h => by simp at h
  | x :: xs, y :: ys, h => by
    rw [smL, List.zipWith_cons_cons, List.all_cons, smL_zip xs ys (by simpa using h)]
    rfl

mutual
def plainD : PyData → Bool
  | .list ds => plainDL ds
  | .tuple ds => plainDL ds
  | .dict _ => false
  | _ => true
def plainDL : List PyData → Bool
  | [] => true
  | d :: ds => plainD d && plainDL ds
end
mutual
theorem Dp.same {K : PySem.W.Frag} {H H' : Hp} (s : Same H H') : ∀ {d : PyData} {v : V}, Dp K H v d → Dp K H' v d
  | .none, _, h => by cases h; exact .non
  | .bool b, _, h => by cases h; exact .bl b
  | .int i, _, h => by cases h; exact .int i
  | .str x, _, h => by cases h; exact .str x
  | .list ds, _, h => by
    cases h with
    | lst hs ha => exact .lst (s.seq hs) (DpAll.same s ha)
  | .tuple ds, _, h => by
    cases h with
    | tup hs ha => exact .tup (Same.seqT s hs) (DpAll.same s ha)
  | .dict _, _, h => by cases h
theorem DpAll.same {K : PySem.W.Frag} {H H' : Hp} (s : Same H H') : ∀ {ds : List PyData} {vs : List V}, DpAll K H vs ds → DpAll K H' vs ds
  | [], _, h => by cases h; exact .nil
  | d :: ds, _, h => by
    cases h with
    | cons h1 h2 => exact .cons (Dp.same s h1) (DpAll.same s h2)
end
theorem DpAll.len {K : PySem.W.Frag} {H : Hp} : ∀ {ds : List PyData} {vs : List V}, DpAll K H vs ds → vs.length = ds.length
  | [], _, h => by cases h; rfl
  | d :: ds, _, h => by
    cases h with
    | cons h1 h2 => rw [List.length_cons, List.length_cons, DpAll.len h2]
theorem DpAll.get {K : PySem.W.Frag} {H : Hp} : ∀ {ds : List PyData} {vs : List V} {i : Nat} {v : V}, DpAll K H vs ds → vs[i]? = some v → ∃ d, ds[i]? = some d ∧ Dp K H v d
  | [], _, i, v, h, e => by cases h; simp at e
  | d :: ds, _, 0, v, h, e => by
    cases h with
    | cons h1 h2 => simp at e; subst e; exact ⟨d, rfl, h1⟩
  | d :: ds, _, i + 1, v, h, e => by
    cases h with
    | cons h1 h2 =>
      obtain ⟨d', e1, e2⟩ := DpAll.get (i := i) h2 (by simpa using e)
      exact ⟨d', by simpa using e1, e2⟩
theorem depL_get : ∀ {ds : List PyData} {i : Nat} {d : PyData}, ds[i]? = some d → dep d ≤ depL ds
  | [], i, d, e => by simp at e
  | x :: ds, 0, d, e => by
    simp at e; subst e
    rw [depL]; omega
  | x :: ds, i + 1, d, e => by
    have := depL_get (i := i) (ds := ds) (by simpa using e)
    rw [depL]; omega
/-- the type of data -/
def tyD : PyData → String
  | .none => "NoneType"
  | .bool _ => "bool"
  | .int _ => "int"
  | .str _ => "str"
  | .list _ => "list"
  | .tuple _ => "tuple"
  | .dict _ => "dict"
theorem sqL_ty {K : PySem.W.Frag} {H : Hp} {a : Addr} {xs : List V} (h : SqL K H a xs) : TyX K H (.ref a) (.type "list") := by
  rcases h with (h | ⟨o, h⟩) | ⟨o, its, n, h1, h2, _⟩
  · exact .base (.lst h)
  · exact .base (.frz h)
  · exact .kList h1 h2
theorem sqT_ty {K : PySem.W.Frag} {H : Hp} {a : Addr} {xs : List V} (h : SqT K H a xs) : TyX K H (.ref a) (.type "tuple") := by
  rcases h with (h | ⟨o, h⟩) | ⟨o, its, n, h1, h2, _⟩
  · exact .base (.tup h)
  · exact .fTuple h
  · exact .kTuple h1 h2
theorem dp_ty {K : PySem.W.Frag} {H : Hp} {v : V} {d : PyData} (h : Dp K H v d) : TyX K H v (.type (tyD d)) := by
  cases h with
  | non => exact .base .non
  | bl b => exact .base (.bl b)
  | int i => exact .base (.int i)
  | str x => exact .base (.str x)
  | lst hs _ => exact sqL_ty hs
  | tup hs _ => exact sqT_ty hs
def isD (d : PyData) (c : String) : Bool := (kitB (tyD d) c).getD false
def ok6 (c : String) : Bool := (["list", "tuple", "bool", "int", "str", "dict"] : List String).contains c
theorem kit_isD {K : PySem.W.Frag} {d : PyData} {c : String} (hc : ok6 c = true := by decide +kernel) : PySem.W.kitOne K (.type (tyD d)) (.type c) = some (isD d c) := by
  refine kit_ty ?_
  unfold isD
  have : ∀ a ∈ (["NoneType", "bool", "int", "str", "list", "tuple", "dict"] : List String), ∀ c ∈ (["list", "tuple", "bool", "int", "str", "dict"] : List String), kitB a c = some ((kitB a c).getD false) := by decide +kernel
  exact this (tyD d) (by cases d <;> simp [tyD]) c (List.contains_iff_mem.mp hc)
def spSame (K : PySem.W.Frag) (n : Nat) : Sp := fun vs H Q _ => ∃ (x y : V) (d e : PyData), vs = [x, y] ∧ Dp K H x d ∧ Dp K H y e ∧ dep e < n ∧ wd e ≤ 1000000 ∧ ∀ H', Same H H' → Q (.bl (sm d e)) H'
end HN

namespace HN
open PySem L2
/-- a comprehension over zip of two lists of one length -/
theorem lc_zipL {K : PySem.W.Frag} {a b : Addr} {xs ys : List V} {g : TG} {tt : TT} {te : TE} {vs : List Nat} {σ : St} {H1 : Hp} {D : Addr} {Qd : Hp → Prop} (hl : xs.length = ys.length) (Pv : Nat → Hp → Prop) (h0 : Pv 0 (upd H1 D (.lst []))) (hq : ∀ i H, Pv i H → SqL K H a xs ∧ SqL K H b ys)
    (hs : ∀ (i : Nat) (x y : V) (T : Addr) (H : Hp), xs[i]? = some x → ys[i]? = some y → Pv i H → H T = none → g (.ref T) (wipe σ vs) (upd H T (.tup [x, y])) fun σ2 H2 => wipe σ2 vs = wipe σ vs ∧ tt σ2 H2 fun b H3 =>
      if b = true then te σ2 H3 fun y H4 => ∃ acc, H4 D = some (.lst acc) ∧ acc.length < sizeLine ∧ Pv (i + 1) (upd H4 D (.lst (acc ++ [y]))) else Pv (i + 1) H3) (hd : ∀ H, Pv xs.length H → Qd H) :
    ∃ W : Nat → Nat → Hp → Prop, (∃ m, W 0 m (upd H1 D (.lst []))) ∧ ∀ i m H, W i m H →
      ((Itz K a b).stop i H ∧ Qd H) ∨ ((Itz K a b).go i H ∧ ∃ Nx : Hp → Prop, (∀ H', Nx H' → ∃ m', m' < m ∧ W (i + 1) m' H') ∧ ∀ x H', (Itz K a b).yld i H x H' → g x (wipe σ vs) H' fun σ2 H2 => wipe σ2 vs = wipe σ vs ∧ tt σ2 H2 fun b H3 =>
        if b = true then te σ2 H3 fun y H4 => ∃ acc, H4 D = some (.lst acc) ∧ acc.length < sizeLine ∧ Nx (upd H4 D (.lst (acc ++ [y]))) else Nx H3) := by
  refine ⟨fun i m H => m = xs.length - i ∧ i ≤ xs.length ∧ Pv i H, ⟨xs.length, by simp, Nat.zero_le _, h0⟩, ?_⟩
  rintro i m H ⟨rfl, hi, p⟩
  obtain ⟨qx, qy⟩ := hq i H p
  by_cases hlt : i < xs.length
  · have hlt2 : i < ys.length := by omega
    refine .inr ⟨⟨xs, ys, _, _, qx, qy, List.getElem?_eq_getElem hlt, List.getElem?_eq_getElem hlt2⟩, Pv (i + 1), fun H' p' => ⟨xs.length - (i + 1), by omega, rfl, hlt, p'⟩, fun v H' y => ?_⟩
    obtain ⟨T, x', y', rfl, hT, rfl, f1, f2⟩ := y
    exact hs i x' y' T H (f1 xs qx) (f2 ys qy) p hT
  · have e : i = xs.length := by omega
    subst e
    exact .inl ⟨⟨xs, ys, qx, qy, Or.inl (Nat.le_refl _)⟩, hd H p⟩

theorem lc_zipT {K : PySem.W.Frag} {a b : Addr} {xs ys : List V} {g : TG} {tt : TT} {te : TE} {vs : List Nat} {σ : St} {H1 : Hp} {D : Addr} {Qd : Hp → Prop} (hl : xs.length = ys.length) (Pv : Nat → Hp → Prop) (h0 : Pv 0 (upd H1 D (.lst []))) (hq : ∀ i H, Pv i H → SqT K H a xs ∧ SqT K H b ys)
    (hs : ∀ (i : Nat) (x y : V) (T : Addr) (H : Hp), xs[i]? = some x → ys[i]? = some y → Pv i H → H T = none → g (.ref T) (wipe σ vs) (upd H T (.tup [x, y])) fun σ2 H2 => wipe σ2 vs = wipe σ vs ∧ tt σ2 H2 fun b H3 =>
      if b = true then te σ2 H3 fun y H4 => ∃ acc, H4 D = some (.lst acc) ∧ acc.length < sizeLine ∧ Pv (i + 1) (upd H4 D (.lst (acc ++ [y]))) else Pv (i + 1) H3) (hd : ∀ H, Pv xs.length H → Qd H) :
    ∃ W : Nat → Nat → Hp → Prop, (∃ m, W 0 m (upd H1 D (.lst []))) ∧ ∀ i m H, W i m H →
      ((RZ.ItzT K a b).stop i H ∧ Qd H) ∨ ((RZ.ItzT K a b).go i H ∧ ∃ Nx : Hp → Prop, (∀ H', Nx H' → ∃ m', m' < m ∧ W (i + 1) m' H') ∧ ∀ x H', (RZ.ItzT K a b).yld i H x H' → g x (wipe σ vs) H' fun σ2 H2 => wipe σ2 vs = wipe σ vs ∧ tt σ2 H2 fun b H3 =>
        if b = true then te σ2 H3 fun y H4 => ∃ acc, H4 D = some (.lst acc) ∧ acc.length < sizeLine ∧ Nx (upd H4 D (.lst (acc ++ [y]))) else Nx H3) := by
  refine ⟨fun i m H => m = xs.length - i ∧ i ≤ xs.length ∧ Pv i H, ⟨xs.length, by simp, Nat.zero_le _, h0⟩, ?_⟩
  rintro i m H ⟨rfl, hi, p⟩
  obtain ⟨qx, qy⟩ := hq i H p
  by_cases hlt : i < xs.length
  · have hlt2 : i < ys.length := by omega
    refine .inr ⟨⟨xs, ys, _, _, qx, qy, List.getElem?_eq_getElem hlt, List.getElem?_eq_getElem hlt2⟩, Pv (i + 1), fun H' p' => ⟨xs.length - (i + 1), by omega, rfl, hlt, p'⟩, fun v H' y => ?_⟩
    obtain ⟨T, x', y', rfl, hT, rfl, f1, f2⟩ := y
    exact hs i x' y' T H (f1 xs qx) (f2 ys qy) p hT
  · have e : i = xs.length := by omega
    subst e
    exact .inl ⟨⟨xs, ys, qx, qy, Or.inl (Nat.le_refl _)⟩, hd H p⟩
end HN

namespace HN
open PySem L2
section
variable {P : Program} {w : World} {K : PySem.W.Frag} {mg : Str → Option Value} {base : Heap}
theorem scSame : FnScope ["_law_found", "_law_due_here", "_law_one", "_law_other"] ["_law_found", "_law_due_here"] (defScope sSame) := ⟨rfl, rfl, rfl, by decide +kernel, rfl, by decide +kernel, by decide +kernel⟩
theorem kitAny2 {t c1 c2 : Value} {b1 b2 : Bool} (h1 : PySem.W.kitOne K t c1 = some b1) (h2 : PySem.W.kitOne K t c2 = some b2) : PySem.W.kitAny K t [c1, c2] = some (b1 || b2) := by
  refine kitAny_cons h1 (fun e => ?_) (fun e => by rw [e]; rfl)
  rw [e, Bool.false_or]
  refine kitAny_cons h2 (fun e2 => ?_) (fun e2 => e2)
  rw [e2]; exact kitAny_nil
theorem kitAny4 {t c1 c2 c3 c4 : Value} {b1 b2 b3 b4 : Bool} (h1 : PySem.W.kitOne K t c1 = some b1) (h2 : PySem.W.kitOne K t c2 = some b2) (h3 : PySem.W.kitOne K t c3 = some b3) (h4 : PySem.W.kitOne K t c4 = some b4) : PySem.W.kitAny K t [c1, c2, c3, c4] = some (b1 || (b2 || (b3 || b4))) := by
  refine kitAny_cons h1 (fun e => ?_) (fun e => by rw [e]; rfl)
  rw [e, Bool.false_or]
  refine kitAny_cons h2 (fun e => ?_) (fun e => by rw [e]; rfl)
  rw [e, Bool.false_or]
  exact kitAny2 h3 h4
theorem cls2 {a b : String} : Paired ClsV [.ty a, .ty b] [.type a, .type b] := .cons (.ty a) (.cons (.ty b) .nil)
theorem cls4 {a b c d : String} : Paired ClsV [.ty a, .ty b, .ty c, .ty d] [.type a, .type b, .type c, .type d] := .cons (.ty a) (.cons (.ty b) (.cons (.ty c) (.cons (.ty d) .nil)))
theorem isD_list (d : PyData) : isD d "list" = (match d with | .list _ => true | _ => false) := by cases d <;> (unfold isD tyD; dsimp only; decide +kernel)
theorem isD_tuple (d : PyData) : isD d "tuple" = (match d with | .tuple _ => true | _ => false) := by cases d <;> (unfold isD tyD; dsimp only; decide +kernel)
theorem isD_bool (d : PyData) : isD d "bool" = (match d with | .bool _ => true | _ => false) := by cases d <;> (unfold isD tyD; dsimp only; decide +kernel)
theorem isD_int (d : PyData) : isD d "int" = (match d with | .bool _ => true | .int _ => true | _ => false) := by cases d <;> (unfold isD tyD; dsimp only; decide +kernel)
theorem isD_str (d : PyData) : isD d "str" = (match d with | .str _ => true | _ => false) := by cases d <;> (unfold isD tyD; dsimp only; decide +kernel)
theorem iteN {c A B : Prop} [Decidable c] (hc : ¬ c) (h : A) : if (!decide c) = true then A else B := by
  rw [decide_eq_false hc]
  exact iteT h
theorem dp_list {H : Hp} {v : V} {ds : List PyData} (h : Dp K H v (.list ds)) : ∃ a xs, v = .ref a ∧ SqL K H a xs ∧ DpAll K H xs ds := by
  cases h with
  | lst hs ha => exact ⟨_, _, rfl, hs, ha⟩
theorem dp_tuple {H : Hp} {v : V} {ds : List PyData} (h : Dp K H v (.tuple ds)) : ∃ a xs, v = .ref a ∧ SqT K H a xs ∧ DpAll K H xs ds := by
  cases h with
  | tup hs ha => exact ⟨_, _, rfl, hs, ha⟩
theorem take_more {α : Type} {l : List α} {i : Nat} {x : α} (h : l[i]? = some x) : l.take (i + 1) = l.take i ++ [x] := by
  rw [List.take_add_one, h]; rfl
/-- what the law asks ahead of the last two rows, by data -/
theorem ok_same {f : Addr} {fd : FuncData} (F : Fun K "_law_same" "_law_same" sSame f fd) (T : Txt K mg) (mS : mg "_law_same" = some (.ref f)) (bS : Binds K fd ["_law_found", "_law_due_here"] []) :
    ∀ n, FnOk P w K mg base CX0 n f fd ["_law_found", "_law_due_here"] (spSame K n)
  | 0 => ⟨fun vs H Q E h => by obtain ⟨_, _, _, _, _, _, _, z, _⟩ := h; exact absurd z (Nat.not_lt_zero _), fun A outer s H args us vs Q E _ _ _ _ h => by obtain ⟨_, _, _, _, _, _, _, z, _⟩ := h; exact absurd z (Nat.not_lt_zero _)⟩
  | n + 1 => by
    have G := ok_same F T mS bS n
    refine F.ok scSame (fun vs H Q E h => ?_) (fun cdv A outer s H vs Q E hr h => ?_)
    · obtain ⟨x, y, d, e, rfl, _⟩ := h
      rfl
    · obtain ⟨x, y, d, e, rfl, hx, hy, hn, hw, k⟩ := h
      have hc : A.handled = none := hr.hd
      refine ⟨_, pss_cons (ps_if (pt_val (pe_callB call_isiT (by rfl) T.isi (by decide +kernel) (pa_cons (pv 1) (pa_cons (pe_tup (pa_cons (pe_bltn (v := .ty "list") (by rfl) T.list (by decide +kernel) rfl) (pa_cons (pe_bltn (v := .ty "tuple") (by rfl) T.tuple (by decide +kernel) rfl) pa_nil))) pa_nil))))
          (pss_cons (ps_if (PW.pt (pw_or
              (pt_cmpR op_ne (pe_callB call_isi (by rfl) T.isi (by decide +kernel) (pa_cons (pv 0) (pa_cons (pe_bltn (v := .ty "list") (by rfl) T.list (by decide +kernel) rfl) pa_nil))) (pe_callB call_isi (by rfl) T.isi (by decide +kernel) (pa_cons (pv 1) (pa_cons (pe_bltn (v := .ty "list") (by rfl) T.list (by decide +kernel) rfl) pa_nil))) (nomark _))
              (pw_or1 (pt_cmpR op_ne (pe_callB call_isi (by rfl) T.isi (by decide +kernel) (pa_cons (pv 0) (pa_cons (pe_bltn (v := .ty "tuple") (by rfl) T.tuple (by decide +kernel) rfl) pa_nil))) (pe_callB call_isi (by rfl) T.isi (by decide +kernel) (pa_cons (pv 1) (pa_cons (pe_bltn (v := .ty "tuple") (by rfl) T.tuple (by decide +kernel) rfl) pa_nil))) (nomark _)))))
            (pss_one (ps_ret pe_bl)) pss_nil)
          (pss_one (ps_ret (pe_and (pe_cmpR op_eq (pe_callB call_len_seq (by rfl) T.len PySem.boot_len (pa_cons (pv 0) pa_nil)) (pe_callB call_len_seq (by rfl) T.len PySem.boot_len (pa_cons (pv 1) pa_nil)) (nomark _))
            (pe_one (pe_callB (cr_all rfl) (by rfl) T.all (by decide +kernel) (pa_cons (pe_lc (own := [("_law_one", 2), ("_law_other", 3)]) (g := gTup K 2 (gCons (gName 2) (gCons (gName 3) gNil))) (tt := tYes) rfl scSame.nd (RZ.pi_zipA (by rfl) T.zip (pa_cons (pv 0) (pa_cons (pv 1) pa_nil)))
              (blkOk_by (N := ["_law_found", "_law_due_here", "_law_one", "_law_other"]) (sc := defScope sSame) (by decide +kernel))
              (fun _ _ _ _ _ => pg_tup rfl (pgs_cons (pg_name (i := 2) scSame.nd rfl (Or.inl rfl)) (pgs_cons (pg_name (i := 3) scSame.nd rfl (Or.inl rfl)) pgs_nil))) (fun _ _ _ _ _ => pts_nil)
              (fun _ _ _ _ _ => pe_call G hr (by rfl) mS F.kp bS .nil pass0 (pa_cons (pv 2) (pa_cons (pv 3) pa_nil)))) pa_nil))))))) pss_nil)
        (pss_cons (ps_if (pt_val (pe_callB call_isiT (by rfl) T.isi (by decide +kernel) (pa_cons (pv 1) (pa_cons (pe_tup (pa_cons (pe_bltn (v := .ty "bool") (by rfl) T.bool (by decide +kernel) rfl) (pa_cons (pe_bltn (v := .ty "int") (by rfl) T.int (by decide +kernel) rfl) pa_nil))) pa_nil))))
          (pss_one (ps_ret (pe_and (pe_callB call_isi (by rfl) T.isi (by decide +kernel) (pa_cons (pv 0) (pa_cons (pe_bltn (v := .ty "int") (by rfl) T.int (by decide +kernel) rfl) pa_nil)))
            (pe_and (pe_cmpR op_eq (pe_callB call_isi (by rfl) T.isi (by decide +kernel) (pa_cons (pv 0) (pa_cons (pe_bltn (v := .ty "bool") (by rfl) T.bool (by decide +kernel) rfl) pa_nil))) (pe_callB call_isi (by rfl) T.isi (by decide +kernel) (pa_cons (pv 1) (pa_cons (pe_bltn (v := .ty "bool") (by rfl) T.bool (by decide +kernel) rfl) pa_nil))) (nomark _))
            (pe_one (pe_cmpR op_eq (pv 0) (pv 1) (nomark _))))))) pss_nil)
        (pss_one (ps_ret (pe_and (pe_not (pe_callB call_isiT (by rfl) T.isi (by decide +kernel) (pa_cons (pv 0) (pa_cons (pe_tup (pa_cons (pe_bltn (v := .ty "bool") (by rfl) T.bool (by decide +kernel) rfl) (pa_cons (pe_bltn (v := .ty "int") (by rfl) T.int (by decide +kernel) rfl) (pa_cons (pe_bltn (v := .ty "list") (by rfl) T.list (by decide +kernel) rfl) (pa_cons (pe_bltn (v := .ty "tuple") (by rfl) T.tuple (by decide +kernel) rfl) pa_nil))))) pa_nil))))
          (pe_one (pe_cmpR op_eq (pv 0) (pv 1) (nomark _))))))), ?_⟩
      refine ⟨_, rfl, by show 2 ≤ sizeLine; decide, fun p hp => ?_⟩
      have s1 := same_new (o := .tup [.ty "list", .ty "tuple"]) hp
      have hx1 := Dp.same s1 hx
      have hy1 := Dp.same s1 hy
      refine ⟨y, p, _, _, _, _, rfl, upd_same, cls2, dp_ty hy1, kitAny2 kit_isD kit_isD, _, rfl, ?_⟩
      rw [isD_list, isD_tuple]
      refine ite2 (fun h1 => ?_) (fun h1 => ?_)
      · -- a list or a tuple is due
        refine ⟨_, rfl, x, .ty "list", _, _, _, rfl, .ty "list", dp_ty hx1, kit_isD, _, rfl, y, .ty "list", _, _, _, rfl, .ty "list", dp_ty hy1, kit_isD, rfl, _, rfl, ?_⟩
        rw [isD_list, isD_list]
        cases e with
        | list es =>
          cases d with
          | list ds =>
            refine iteNS rfl ?_
            refine ⟨_, rfl, x, .ty "tuple", _, _, _, rfl, .ty "tuple", dp_ty hx1, kit_isD, _, rfl, y, .ty "tuple", _, _, _, rfl, .ty "tuple", dp_ty hy1, kit_isD, rfl, _, rfl, ?_⟩
            rw [isD_tuple, isD_tuple]
            refine iteNS rfl ?_
            obtain ⟨ax, xs, rfl, hsx, hax⟩ := dp_list hx1
            obtain ⟨ay, ys, rfl, hsy, hay⟩ := dp_list hy1
            refine ⟨_, rfl, ax, xs, rfl, .inl hsx, _, rfl, ay, ys, rfl, .inl hsy, rfl, _, rfl, ?_⟩
            refine ite2 (fun h5 => ?_) (fun h5 => ?_)
            · have hl : xs.length = ys.length := by
                have z := of_decide_eq_true h5
                injection z with z
                omega
              have hld : ds.length = es.length := by rw [← DpAll.len hax, ← DpAll.len hay]; exact hl
              refine ⟨_, rfl, _, rfl, ax, ay, xs, ys, rfl, .inl ⟨hsx, hsy, fun D hD => lc_zipL (K := K) (a := ax) (b := ay) (xs := xs) (ys := ys) hl
                (fun i H' => Same (upd H p (.tup [.ty "list", .ty "tuple"])) H' ∧ H' D = some (.lst (((List.zipWith sm ds es).take i).map V.bl))) ⟨same_new hD, by rw [upd_same]; rfl⟩ (fun i H' q => ⟨Same.seq q.1 hsx, Same.seq q.1 hsy⟩) (fun i x' y' T H' ex ey q hT => ?_) (fun H' q => ?_)⟩⟩
              · obtain ⟨dx, edx, pdx⟩ := DpAll.get hax ex
                obtain ⟨dy, edy, pdy⟩ := DpAll.get hay ey
                have sT := q.1.trans (same_new (o := .tup [x', y']) hT)
                have hDT : D ≠ T := ne_of_none q.2 hT
                refine ⟨T, _, rfl, SqT.of upd_same, rfl, _, _, rfl, _, _, rfl, rfl, rfl, ?_⟩
                refine ⟨_, rfl, _, rfl, x', y', dx, dy, rfl, Dp.same sT pdx, Dp.same sT pdy, ?_, ?_, fun H3 s3 => ?_⟩
                · have := depL_get edy
                  simp only [dep] at hn
                  omega
                · have := wdL_get edy
                  simp only [wd] at hw
                  omega
                · have hD3 := s3 D _ (by rw [upd_ne hDT]; exact q.2)
                  refine ⟨_, hD3, ?_, ⟨fun b o e => ?_, ?_⟩⟩
                  · rw [List.length_map, List.length_take, List.length_zipWith]
                    have l1 := (List.getElem?_eq_some_iff.mp edy).1
                    have l2 : es.length ≤ 1000000 := by rw [wd] at hw; omega
                    exact Nat.lt_of_le_of_lt (show min i (min ds.length es.length) ≤ 1000000 by omega) (by decide)
                  · rw [upd_ne (ne_of_none e hD)]
                    exact s3 b o (sT b o e)
                  · rw [upd_same]
                    have ez : (List.zipWith sm ds es)[i]? = some (sm dx dy) := by
                      rw [List.getElem?_zipWith, edx, edy]
                    rw [take_more ez, List.map_append]
                    rfl
              · refine ⟨D, List.zipWith sm ds es, rfl, SqL.of ?_, ?_⟩
                · rw [q.2, List.take_of_length_le]
                  rw [List.length_zipWith, DpAll.len hax]
                  omega
                · have z := k _ (s1.trans q.1)
                  rw [sm, smL_zip _ _ hld] at z
                  exact z
            · have z := k _ s1
              rw [sm] at z
              have : smL ds es = false := by
                cases c : smL ds es with
                | false => rfl
                | true =>
                  have := smL_len _ _ c
                  refine absurd (decide_eq_true ?_) h5
                  rw [DpAll.len hax, DpAll.len hay, this]
              rw [this] at z
              exact z
          | _ => exact iteN (by simp) (iteT (k _ s1))
        | tuple es =>
          cases d with
          | list ds => exact iteN (by simp) (iteT (k _ s1))
          | tuple ds =>
            refine iteNS rfl ?_
            refine ⟨_, rfl, x, .ty "tuple", _, _, _, rfl, .ty "tuple", dp_ty hx1, kit_isD, _, rfl, y, .ty "tuple", _, _, _, rfl, .ty "tuple", dp_ty hy1, kit_isD, rfl, _, rfl, ?_⟩
            rw [isD_tuple, isD_tuple]
            refine iteNS rfl ?_
            obtain ⟨ax, xs, rfl, hsx, hax⟩ := dp_tuple hx1
            obtain ⟨ay, ys, rfl, hsy, hay⟩ := dp_tuple hy1
            refine ⟨_, rfl, ax, xs, rfl, .inr hsx, _, rfl, ay, ys, rfl, .inr hsy, rfl, _, rfl, ?_⟩
            refine ite2 (fun h5 => ?_) (fun h5 => ?_)
            · have hl : xs.length = ys.length := by
                have z := of_decide_eq_true h5
                injection z with z
                omega
              have hld : ds.length = es.length := by rw [← DpAll.len hax, ← DpAll.len hay]; exact hl
              refine ⟨_, rfl, _, rfl, ax, ay, xs, ys, rfl, .inr ⟨hsx, hsy, fun D hD => lc_zipT (K := K) (a := ax) (b := ay) (xs := xs) (ys := ys) hl
                (fun i H' => Same (upd H p (.tup [.ty "list", .ty "tuple"])) H' ∧ H' D = some (.lst (((List.zipWith sm ds es).take i).map V.bl))) ⟨same_new hD, by rw [upd_same]; rfl⟩ (fun i H' q => ⟨Same.seqT q.1 hsx, Same.seqT q.1 hsy⟩) (fun i x' y' T H' ex ey q hT => ?_) (fun H' q => ?_)⟩⟩
              · obtain ⟨dx, edx, pdx⟩ := DpAll.get hax ex
                obtain ⟨dy, edy, pdy⟩ := DpAll.get hay ey
                have sT := q.1.trans (same_new (o := .tup [x', y']) hT)
                have hDT : D ≠ T := ne_of_none q.2 hT
                refine ⟨T, _, rfl, SqT.of upd_same, rfl, _, _, rfl, _, _, rfl, rfl, rfl, ?_⟩
                refine ⟨_, rfl, _, rfl, x', y', dx, dy, rfl, Dp.same sT pdx, Dp.same sT pdy, ?_, ?_, fun H3 s3 => ?_⟩
                · have := depL_get edy
                  simp only [dep] at hn
                  omega
                · have := wdL_get edy
                  simp only [wd] at hw
                  omega
                · have hD3 := s3 D _ (by rw [upd_ne hDT]; exact q.2)
                  refine ⟨_, hD3, ?_, ⟨fun b o e => ?_, ?_⟩⟩
                  · rw [List.length_map, List.length_take, List.length_zipWith]
                    have l1 := (List.getElem?_eq_some_iff.mp edy).1
                    have l2 : es.length ≤ 1000000 := by rw [wd] at hw; omega
                    exact Nat.lt_of_le_of_lt (show min i (min ds.length es.length) ≤ 1000000 by omega) (by decide)
                  · rw [upd_ne (ne_of_none e hD)]
                    exact s3 b o (sT b o e)
                  · rw [upd_same]
                    have ez : (List.zipWith sm ds es)[i]? = some (sm dx dy) := by
                      rw [List.getElem?_zipWith, edx, edy]
                    rw [take_more ez, List.map_append]
                    rfl
              · refine ⟨D, List.zipWith sm ds es, rfl, SqL.of ?_, ?_⟩
                · rw [q.2, List.take_of_length_le]
                  rw [List.length_zipWith, DpAll.len hax]
                  omega
                · have z := k _ (s1.trans q.1)
                  rw [sm, smL_zip _ _ hld] at z
                  exact z
            · have z := k _ s1
              rw [sm] at z
              have : smL ds es = false := by
                cases c : smL ds es with
                | false => rfl
                | true =>
                  have := smL_len _ _ c
                  refine absurd (decide_eq_true ?_) h5
                  rw [DpAll.len hax, DpAll.len hay, this]
              rw [this] at z
              exact z
          | _ =>
            refine iteNS rfl ?_
            refine ⟨_, rfl, x, .ty "tuple", _, _, _, rfl, .ty "tuple", dp_ty hx1, kit_isD, _, rfl, y, .ty "tuple", _, _, _, rfl, .ty "tuple", dp_ty hy1, kit_isD, rfl, _, rfl, ?_⟩
            rw [isD_tuple, isD_tuple]
            exact iteN (by simp) (k _ s1)
        | _ => simp at h1
      · refine ⟨_, rfl, by show 2 ≤ sizeLine; decide, fun p2 hp2 => ?_⟩
        have s2 := s1.trans (same_new (o := .tup [.ty "bool", .ty "int"]) hp2)
        have hx2 := Dp.same s2 hx
        have hy2 := Dp.same s2 hy
        refine ⟨y, p2, _, _, _, _, rfl, upd_same, cls2, dp_ty hy2, kitAny2 kit_isD kit_isD, _, rfl, ?_⟩
        rw [isD_bool, isD_int]
        refine ite2 (fun h2 => ?_) (fun h2 => ?_)
        · refine ⟨_, rfl, x, .ty "int", _, _, _, rfl, .ty "int", dp_ty hx2, kit_isD, _, rfl, ?_⟩
          rw [isD_int]
          refine ite2 (fun h3 => ?_) (fun h3 => ?_)
          · refine ⟨_, rfl, x, .ty "bool", _, _, _, rfl, .ty "bool", dp_ty hx2, kit_isD, _, rfl, y, .ty "bool", _, _, _, rfl, .ty "bool", dp_ty hy2, kit_isD, rfl, _, rfl, ?_⟩
            rw [isD_bool, isD_bool]
            refine ite2 (fun h4 => ?_) (fun h4 => ?_)
            · refine ⟨_, rfl, _, rfl, ?_⟩
              cases e <;> simp at h2 <;> cases d <;> simp at h3 <;> simp at h4
              · cases hx; cases hy
                rename_i b c
                refine ⟨rfl, ?_⟩
                have := k _ s2
                simp only [sm] at this
                refine Eq.mp (congrArg (fun z => Q (V.bl z) _) ?_) this
                simp [eq_comm]
              · cases hx; cases hy
                refine ⟨rfl, ?_⟩
                have := k _ s2
                simp only [sm] at this
                refine Eq.mp (congrArg (fun z => Q (V.bl z) _) ?_) this
                simp [eq_comm]
            · have := k _ s2
              cases e <;> simp at h2 <;> cases d <;> simp at h3 <;> simp at h4 <;> exact this
          · have := k _ s2
            cases e <;> simp at h2 <;> cases d <;> simp at h3 <;> exact this
        · refine ⟨_, rfl, by show 4 ≤ sizeLine; decide, fun p3 hp3 => ?_⟩
          have s3 := s2.trans (same_new (o := .tup [.ty "bool", .ty "int", .ty "list", .ty "tuple"]) hp3)
          have hx3 := Dp.same s3 hx
          have hy3 := Dp.same s3 hy
          refine ⟨x, p3, _, _, _, _, rfl, upd_same, cls4, dp_ty hx3, kitAny4 kit_isD kit_isD kit_isD kit_isD, _, rfl, _, rfl, ?_⟩
          rw [isD_bool, isD_int, isD_list, isD_tuple]
          have := k _ s3
          refine ite2 (fun h3 => ?_) (fun h3 => ?_)
          · refine ⟨_, rfl, _, rfl, ?_⟩
            cases e <;> simp at h1 <;> simp at h2 <;> cases d <;> simp at h3 <;> cases hx <;> cases hy <;> refine ⟨rfl, ?_⟩ <;> simp only [sm] at this <;>
              (refine Eq.mp (congrArg (fun z => Q (V.bl z) _) ?_) this; simp [eq_comm])
          · cases e <;> simp at h1 <;> simp at h2 <;> cases d <;> simp at h3 <;> exact this
end
end HN

namespace HN
open PySem L2
def isWord (z : Str) : Bool := decide (1 ≤ z.length) && (decide (z.length ≤ 8) && (Txt.isascii z && (Txt.isalpha z && Txt.islower z)))
def dWord : PyData → Bool
  | .str z => isWord z
  | _ => false
def dInt : PyData → Bool
  | .int _ => true
  | _ => false
def dWithin (l g : Int) : PyData → Bool
  | .int i => decide (l ≤ i) && decide (i ≤ g)
  | _ => false
def spIsList (K : PySem.W.Frag) : Sp := fun vs H Q _ => ∃ (x : V) (d : PyData), vs = [x] ∧ Dp K H x d ∧ ∀ H', Same H H' → Q (.bl (isD d "list" || isD d "tuple")) H'
def spIsInt (K : PySem.W.Frag) : Sp := fun vs H Q _ => ∃ (x : V) (d : PyData), vs = [x] ∧ Dp K H x d ∧ Q (.bl (dInt d)) H
def spWithin (K : PySem.W.Frag) : Sp := fun vs H Q _ => ∃ (x : V) (d : PyData) (l g : Int), vs = [x, .int l, .int g] ∧ Dp K H x d ∧ Q (.bl (dWithin l g d)) H
def spIsWord (K : PySem.W.Frag) : Sp := fun vs H Q _ => ∃ (x : V) (d : PyData), vs = [x] ∧ Dp K H x d ∧ (∀ z, d = .str z → z.length ≤ 1000) ∧ Q (.bl (dWord d)) H
/-- a list of unlike words, as it is passed to a book -/
def Wds (most : Nat) (ws : List Str) : Prop := 1 ≤ ws.length ∧ ws.length ≤ most ∧ ws.Nodup ∧ ∀ z ∈ ws, isWord z = true
def spWordList (K : PySem.W.Frag) : Sp := fun vs H Q _ => ∃ (l : Addr) (ws : List Str) (m : Nat), vs = [.ref l, .int (m : Nat)] ∧ SqL K H l (ws.map V.str) ∧ m ≤ 100 ∧ Wds m ws ∧ ∀ H', Same H H' → Q (.bl true) H'
theorem wd_len {z : Str} (h : isWord z = true) : 1 ≤ z.length ∧ z.length ≤ 8 := by
  simp only [isWord, Bool.and_eq_true, decide_eq_true_eq] at h
  exact ⟨h.1, h.2.1⟩
section
variable {P : Program} {w : World} {K : PySem.W.Frag} {mg : Str → Option Value} {base : Heap}
theorem scIsList : FnScope ["thing"] ["thing"] (defScope sIsList) := ⟨rfl, rfl, rfl, by decide +kernel, rfl, by decide +kernel, by decide +kernel⟩
theorem ok_isList {f : Addr} {fd : FuncData} (D : Def K mg "is_list" sIsList ["thing"] f fd) (T : Txt K mg) : FnOk P w K mg base CX0 1 f fd ["thing"] (spIsList K) := by
  refine D.F.ok scIsList (fun vs H Q E h => ?_) (fun cdv A outer s H vs Q E hr h => ?_)
  · obtain ⟨x, d, rfl, _⟩ := h
    rfl
  · obtain ⟨x, d, rfl, hx, k⟩ := h
    refine ⟨_, pss_one (ps_ret (pe_callB call_isiT (by rfl) T.isi (by decide +kernel) (pa_cons (pv 0) (pa_cons (pe_tup (pa_cons (pe_bltn (v := .ty "list") (by rfl) T.list (by decide +kernel) rfl) (pa_cons (pe_bltn (v := .ty "tuple") (by rfl) T.tuple (by decide +kernel) rfl) pa_nil))) pa_nil)))), ?_⟩
    refine ⟨_, rfl, by show 2 ≤ sizeLine; decide, fun p hp => ?_⟩
    have s1 := same_new (o := .tup [.ty "list", .ty "tuple"]) hp
    exact ⟨x, p, _, _, _, _, rfl, upd_same, cls2, dp_ty (Dp.same s1 hx), kitAny2 kit_isD kit_isD, k _ s1⟩
theorem scIsInt : FnScope ["thing"] ["thing"] (defScope sIsInt) := ⟨rfl, rfl, rfl, by decide +kernel, rfl, by decide +kernel, by decide +kernel⟩
theorem ok_isInt {f : Addr} {fd : FuncData} (D : Def K mg "is_int" sIsInt ["thing"] f fd) (T : Txt K mg) : FnOk P w K mg base CX0 1 f fd ["thing"] (spIsInt K) := by
  refine D.F.ok scIsInt (fun vs H Q E h => ?_) (fun cdv A outer s H vs Q E hr h => ?_)
  · obtain ⟨x, d, rfl, _⟩ := h
    rfl
  · obtain ⟨x, d, rfl, hx, k⟩ := h
    refine ⟨_, pss_one (ps_ret (pe_and (pe_callB call_isi (by rfl) T.isi (by decide +kernel) (pa_cons (pv 0) (pa_cons (pe_bltn (v := .ty "int") (by rfl) T.int (by decide +kernel) rfl) pa_nil)))
      (pe_one (pe_not (pe_callB call_isi (by rfl) T.isi (by decide +kernel) (pa_cons (pv 0) (pa_cons (pe_bltn (v := .ty "bool") (by rfl) T.bool (by decide +kernel) rfl) pa_nil))))))), ?_⟩
    refine ⟨_, rfl, x, .ty "int", _, _, _, rfl, .ty "int", dp_ty hx, kit_isD, _, rfl, ?_⟩
    rw [isD_int]
    refine ite2 (fun h3 => ?_) (fun h3 => ?_)
    · refine ⟨_, rfl, x, .ty "bool", _, _, _, rfl, .ty "bool", dp_ty hx, kit_isD, _, rfl, ?_⟩
      rw [isD_bool]
      cases d <;> simp at h3 <;> exact k
    · cases d <;> simp at h3 <;> exact k
theorem scWithin : FnScope ["thing", "least", "greatest"] ["thing", "least", "greatest"] (defScope sIsIntWithin) := ⟨rfl, rfl, rfl, by decide +kernel, rfl, by decide +kernel, by decide +kernel⟩
theorem ok_within {f fI : Addr} {fd fdI : FuncData} (D : Def K mg "is_int_within" sIsIntWithin ["thing", "least", "greatest"] f fd) (T : Txt K mg) (DI : Def K mg "is_int" sIsInt ["thing"] fI fdI) : FnOk P w K mg base CX0 2 f fd ["thing", "least", "greatest"] (spWithin K) := by
  have GI : FnOk P w K mg base CX0 1 fI fdI ["thing"] (spIsInt K) := ok_isInt DI T
  refine D.F.ok scWithin (fun vs H Q E h => ?_) (fun cdv A outer s H vs Q E hr h => ?_)
  · obtain ⟨x, d, l, g, rfl, _⟩ := h
    rfl
  · obtain ⟨x, d, l, g, rfl, hx, k⟩ := h
    refine ⟨_, pss_one (ps_ret (pe_and (pe_call GI hr (by rfl) DI.m DI.F.kp DI.b .nil pass0 (pa_cons (pv 0) pa_nil)) (pe_one (pe_chain op_le op_le (pv 1) (pv 0) (pv 2))))), ?_⟩
    refine ⟨_, rfl, x, d, rfl, hx, _, rfl, ?_⟩
    refine ite2 (fun h3 => ?_) (fun h3 => ?_)
    · cases d <;> simp [dInt] at h3
      cases hx
      rename_i i
      refine ⟨_, rfl, _, rfl, _, _, rfl, rfl, _, rfl, ?_⟩
      simp only [dWithin] at k
      by_cases c : l ≤ i
      · rw [decide_eq_true c, Bool.true_and] at k
        rw [decide_eq_true c]
        exact ⟨_, rfl, _, _, rfl, rfl, k⟩
      · rw [decide_eq_false c, Bool.false_and] at k
        rw [decide_eq_false c]
        exact k
    · cases d <;> simp [dInt] at h3 <;> exact k
theorem scIsWord : FnScope ["thing"] ["thing"] (defScope sIsWord) := ⟨rfl, rfl, rfl, by decide +kernel, rfl, by decide +kernel, by decide +kernel⟩
theorem ok_isWord {f : Addr} {fd : FuncData} (D : Def K mg "is_word" sIsWord ["thing"] f fd) (T : Txt K mg) : FnOk P w K mg base CX0 1 f fd ["thing"] (spIsWord K) := by
  refine D.F.ok scIsWord (fun vs H Q E h => ?_) (fun cdv A outer s H vs Q E hr h => ?_)
  · obtain ⟨x, d, rfl, _⟩ := h
    rfl
  · obtain ⟨x, d, rfl, hx, hz, k⟩ := h
    refine ⟨_, pss_one (ps_ret (pe_and (pe_callB call_isi (by rfl) T.isi (by decide +kernel) (pa_cons (pv 0) (pa_cons (pe_bltn (v := .ty "str") (by rfl) T.str (by decide +kernel) rfl) pa_nil)))
      (pe_and (pe_chain op_le op_le pe_int (pe_callB call_len_str (by rfl) T.len PySem.boot_len (pa_cons (pv 0) pa_nil)) pe_int)
      (pe_and (pe_m0 PySem.F.slot_str_isascii PySem.F.type_str_isascii mt_isascii (pv 0)) (pe_and (pe_m0 PySem.F.slot_str_isalpha PySem.F.type_str_isalpha mt_isalpha (pv 0)) (pe_one (pe_m0 PySem.F.slot_str_islower PySem.F.type_str_islower mt_islower (pv 0)))))))), ?_⟩
    refine ⟨_, rfl, x, .ty "str", _, _, _, rfl, .ty "str", dp_ty hx, kit_isD, _, rfl, ?_⟩
    rw [isD_str]
    refine ite2 (fun h3 => ?_) (fun h3 => ?_)
    · cases d <;> simp at h3
      cases hx
      rename_i z
      have lz := hz z rfl
      simp only [dWord, isWord] at k
      have e1 : decide ((1 : Int) ≤ (z.length : Int)) = decide (1 ≤ z.length) := by congr 1; exact propext ⟨fun h => by omega, fun h => by omega⟩
      have e8 : decide ((z.length : Int) ≤ (8 : Int)) = decide (z.length ≤ 8) := by congr 1; exact propext ⟨fun h => by omega, fun h => by omega⟩
      refine ⟨_, rfl, z, rfl, Nat.le_trans lz (by decide), _, _, rfl, rfl, _, rfl, ?_⟩
      rw [e1]
      by_cases c1 : 1 ≤ z.length
      · rw [decide_eq_true c1, Bool.true_and] at k
        rw [decide_eq_true c1]
        refine ⟨_, _, rfl, rfl, _, rfl, ?_⟩
        rw [e8]
        by_cases c8 : z.length ≤ 8
        · rw [decide_eq_true c8, Bool.true_and] at k
          rw [decide_eq_true c8]
          refine ⟨_, rfl, ⟨_, rfl⟩, z, rfl, rfl, trivial, _, rfl, ?_⟩
          cases ca : Txt.isascii z with
          | false => rw [ca, Bool.false_and] at k; exact k
          | true =>
            rw [ca, Bool.true_and] at k
            refine ⟨_, rfl, ⟨_, rfl⟩, z, rfl, rfl, trivial, _, rfl, ?_⟩
            cases cl : Txt.isalpha z with
            | false => rw [cl, Bool.false_and] at k; exact k
            | true =>
              rw [cl, Bool.true_and] at k
              exact ⟨_, rfl, ⟨_, rfl⟩, z, rfl, rfl, trivial, k⟩
        · rw [decide_eq_false c8, Bool.false_and] at k
          rw [decide_eq_false c8]
          exact k
      · rw [decide_eq_false c1, Bool.false_and] at k
        rw [decide_eq_false c1]
        exact ⟨_, rfl, k⟩
    · cases d <;> simp at h3 <;> exact k
end
end HN

namespace HN
open PySem L2
theorem dp_strs {K : PySem.W.Frag} {H : Hp} : ∀ ws : List Str, DpAll K H (ws.map V.str) (ws.map PyData.str)
  | [] => .nil
  | z :: ws => .cons (.str z) (dp_strs ws)
theorem dp_wlist {K : PySem.W.Frag} {H : Hp} {l : Addr} {ws : List Str} (h : SqL K H l (ws.map V.str)) : Dp K H (.ref l) (.list (ws.map PyData.str)) := .lst h (dp_strs ws)
theorem get_str {ws : List Str} {i : Nat} {x : V} (h : (ws.map V.str)[i]? = some x) : ∃ z, ws[i]? = some z ∧ x = .str z := by
  rw [List.getElem?_map] at h
  cases e : ws[i]? with
  | none => rw [e] at h; cases h
  | some z => rw [e] at h; exact ⟨z, rfl, (Option.some.inj h).symm⟩
section
variable {P : Program} {w : World} {K : PySem.W.Frag} {mg : Str → Option Value} {base : Heap}
theorem scWordList : FnScope ["thing", "most", "word"] ["thing", "most"] (defScope sIsWordList) := ⟨rfl, rfl, rfl, by decide +kernel, rfl, by decide +kernel, by decide +kernel⟩
theorem ok_wordList {f fL fW : Addr} {fd fdL fdW : FuncData} (D : Def K mg "is_word_list" sIsWordList ["thing", "most"] f fd) (T : Txt K mg) (DL : Def K mg "is_list" sIsList ["thing"] fL fdL) (DW : Def K mg "is_word" sIsWord ["thing"] fW fdW) :
    FnOk P w K mg base CX0 2 f fd ["thing", "most"] (spWordList K) := by
  have GL : FnOk P w K mg base CX0 1 fL fdL ["thing"] (spIsList K) := ok_isList DL T
  have GW : FnOk P w K mg base CX0 1 fW fdW ["thing"] (spIsWord K) := ok_isWord DW T
  refine D.F.ok scWordList (fun vs H Q E h => ?_) (fun cdv A outer s H vs Q E hr h => ?_)
  · obtain ⟨l, ws, m, rfl, _⟩ := h
    rfl
  · obtain ⟨l, ws, m, rfl, hl, hm, ⟨h1, h2, nd, hw⟩, k⟩ := h
    refine ⟨_, pss_one (ps_ret (pe_and (pe_call GL hr (by rfl) DL.m DL.F.kp DL.b .nil pass0 (pa_cons (pv 0) pa_nil))
      (pe_and (pe_chain op_le op_le pe_int (pe_callB call_len_seq (by rfl) T.len PySem.boot_len (pa_cons (pv 0) pa_nil)) (pv 1))
      (pe_and (pe_callB (cr_all rfl) (by rfl) T.all (by decide +kernel) (pa_cons (pe_lc (own := [("word", 2)]) (g := gName 2) (tt := tYes) rfl scWordList.nd (pi_list (pv 0)) (blkOk_by (N := ["thing", "most", "word"]) (sc := defScope sIsWordList) (by decide +kernel))
          (fun _ _ _ _ _ => pg_name (i := 2) scWordList.nd rfl (Or.inl rfl)) (fun _ _ _ _ _ => pts_nil) (fun _ _ _ _ _ => pe_call GW hr (by rfl) DW.m DW.F.kp DW.b .nil pass0 (pa_cons (pv 2) pa_nil))) pa_nil))
      (pe_one (pe_cmpR op_eq (pe_lenSetTx rfl (by rfl) T.len (by rfl) T.set (pv 0)) (pe_callB call_len_seq (by rfl) T.len PySem.boot_len (pa_cons (pv 0) pa_nil)) (nomark _))))))), ?_⟩
    refine ⟨_, rfl, _, _, rfl, dp_wlist hl, fun H1 s1 => ⟨_, rfl, ?_⟩⟩
    have hl1 := s1.seq hl
    refine ⟨_, rfl, l, _, rfl, .inl hl1, _, _, rfl, rfl, _, rfl, ?_⟩
    rw [List.length_map, decide_eq_true (show (1 : Int) ≤ (ws.length : Nat) by omega)]
    refine ⟨_, rfl, _, _, rfl, rfl, _, rfl, ?_⟩
    rw [decide_eq_true (show ((ws.length : Nat) : Int) ≤ (m : Nat) by omega)]
    refine ⟨_, rfl, l, rfl, ⟨_, hl1⟩, fun C hC => lc_list (K := K) (a := l) (xs := ws.map V.str) (fun i H' => Same H1 H' ∧ H' C = some (.lst ((List.replicate i true).map V.bl))) ⟨same_new hC, upd_same⟩ (fun i H' _ q => q.1.seq hl1) (fun i x H' hx q => ?_) (fun H' q => ?_)⟩
    · obtain ⟨z, hz, rfl⟩ := get_str hx
      have hi := (List.getElem?_eq_some_iff.mp hz).1
      have wz := hw z (List.mem_of_getElem? hz)
      have lz := wd_len wz
      refine ⟨rfl, _, rfl, _, _, rfl, .str z, fun y e => ?_, _, q.2, ?_, ?_, ?_⟩
      · cases e; omega
      · rw [List.length_map, List.length_replicate]; exact Nat.lt_of_lt_of_le (by omega : i < 101) (by decide)
      · intro b o e
        rw [upd_ne (ne_of_none e hC)]
        exact q.1 b o e
      · rw [upd_same, List.replicate_succ', List.map_append]
        show some (HO.lst (_ ++ [V.bl (isWord z)])) = _
        rw [wz]; rfl
    · rw [List.length_map] at q
      refine ⟨C, List.replicate ws.length true, rfl, SqL.of q.2, _, rfl, ?_⟩
      have : (List.replicate ws.length true).all id = true := by simp
      rw [this]
      have hl2 := q.1.seq hl1
      refine ⟨_, rfl, l, ws, rfl, hl2, nd, by omega, _, rfl, l, _, rfl, .inl hl2, rfl, ?_⟩
      rw [List.length_map]
      have := k H' (s1.trans q.1)
      simpa using this
end
end HN

namespace HN
open PySem L2
/-! ### walks of my own comprehensions -/
theorem goT_it {J : It} {n : Nat} {G : Hp → Prop} {Y : Nat → Hp → V → Hp → Prop} (w : Walk J n G Y) {g : TG} {tt : TT} {tk tv : TE} {vs : List Nat} {τ : L2.St} {D : Addr} {R : Hp → Prop} {H0 : Hp} (Pv : Nat → Hp → Prop) (h0 : Pv 0 H0) (hG : ∀ i H, i ≤ n → Pv i H → G H)
    (hs : ∀ i x H H', i < n → Pv i H → Y i H x H' → g x (wipe τ vs) H' fun τ2 H2 => wipe τ2 vs = wipe τ vs ∧ tt τ2 H2 fun b H3 => if b = true then stT D tk tv τ2 H3 (Pv (i + 1)) else Pv (i + 1) H3) (hd : ∀ H, Pv n H → R H) : goT J g tt tk tv vs τ D R H0 := by
  refine ⟨fun i m H => i ≤ n ∧ m = n - i ∧ Pv i H, ⟨_, Nat.zero_le _, rfl, h0⟩, fun i m H ⟨hi, hm, p⟩ => ?_⟩
  have q := hG i H hi p
  rcases Nat.lt_or_ge i n with lt | ge
  · exact Or.inr ⟨w.goes i H lt q, Pv (i + 1), fun H' p' => ⟨n - (i + 1), by omega, lt, rfl, p'⟩, fun x H' y => hs i x H H' lt p (w.yields i H x H' lt q y)⟩
  · obtain rfl : i = n := Nat.le_antisymm hi ge
    exact Or.inl ⟨w.stops H q, hd H p⟩
/-- the same for dicts whose keys are ints and texts -/
theorem dc_it {J : It} {n : Nat} {G : Hp → Prop} {Y : Nat → Hp → V → Hp → Prop} (w : Walk J n G Y) {g : TG} {tt : TT} {tk tv : TE} {vs : List Nat} {τ : L2.St} {D : Addr} {R : Hp → Prop} {H0 : Hp} (Pv : Nat → Hp → Prop) (h0 : Pv 0 H0) (hG : ∀ i H, i ≤ n → Pv i H → G H)
    (hs : ∀ i x H H', i < n → Pv i H → Y i H x H' → g x (wipe τ vs) H' fun τ2 H2 => wipe τ2 vs = wipe τ vs ∧ tt τ2 H2 fun b H3 => if b = true then tk τ2 H3 fun y H4 => tv τ2 H4 fun z H5 => ∃ kvs k, y = kV k ∧ H5 D = some (.dK kvs) ∧ kvs.length < sizeLine ∧ Pv (i + 1) (upd H5 D (.dK (putK kvs k z))) else Pv (i + 1) H3)
    (hd : ∀ H, Pv n H → R H) : ∃ W : Nat → Nat → Hp → Prop, (∃ m, W 0 m H0) ∧ ∀ i m H, W i m H → (J.stop i H ∧ R H) ∨ (J.go i H ∧ ∃ N : Hp → Prop, (∀ H', N H' → ∃ m', m' < m ∧ W (i + 1) m' H') ∧ ∀ x H', J.yld i H x H' → g x (wipe τ vs) H' fun τ2 H2 => wipe τ2 vs = wipe τ vs ∧ tt τ2 H2 fun b H3 =>
      if b = true then tk τ2 H3 fun y H4 => tv τ2 H4 fun z H5 => ∃ kvs k, y = kV k ∧ H5 D = some (.dK kvs) ∧ kvs.length < sizeLine ∧ N (upd H5 D (.dK (putK kvs k z))) else N H3) := by
  refine ⟨fun i m H => i ≤ n ∧ m = n - i ∧ Pv i H, ⟨_, Nat.zero_le _, rfl, h0⟩, fun i m H ⟨hi, hm, p⟩ => ?_⟩
  have q := hG i H hi p
  rcases Nat.lt_or_ge i n with lt | ge
  · exact Or.inr ⟨w.goes i H lt q, Pv (i + 1), fun H' p' => ⟨n - (i + 1), by omega, lt, rfl, p'⟩, fun x H' y => hs i x H H' lt p (w.yields i H x H' lt q y)⟩
  · obtain rfl : i = n := Nat.le_antisymm hi ge
    exact Or.inl ⟨w.stops H q, hd H p⟩
theorem same_unlock {H H' : Hp} {d : Addr} {od : Obj} {u : HO} (hd : H d = some u) (s : Same (upd H d (.frz od u)) H') : Same H (upd H' d u) := fun b o e => by
  by_cases hb : b = d
  · subst hb
    rw [upd_same, ← hd]; exact e
  · rw [upd_ne hb]
    exact s b o (by rw [upd_ne hb]; exact e)
/-! ### books in plain words -/
structure Eff where
  nx : Str
  hold : Bool
  ring : Bool
  step : Option Int
  deriving DecidableEq
def stV : Option Int → V
  | some i => .int i
  | none => .str "whole"
def stD : Option Int → PyData
  | some i => .int i
  | none => .str "whole"
def effV (e : Eff) : List V := [.str e.nx, .bl e.hold, .bl e.ring, stV e.step]
def effD (e : Eff) : PyData := .tuple [.str e.nx, .bool e.hold, .bool e.ring, stD e.step]
theorem dp_st {K : PySem.W.Frag} {H : Hp} (i : Option Int) : Dp K H (stV i) (stD i) := by
  cases i with
  | none => exact .str _
  | some i => exact .int i
theorem dp_eff {K : PySem.W.Frag} {H : Hp} {a : Addr} {e : Eff} (h : SqT K H a (effV e)) : Dp K H (.ref a) (effD e) := .tup h (.cons (.str _) (.cons (.bl _) (.cons (.bl _) (.cons (dp_st _) .nil))))
def idle (s : Str) : Eff := ⟨s, false, false, some 0⟩
def ages : List Str := ["newer", "same", "elder"]
def GoodEff (states : List Str) (e : Eff) : Prop := e.nx ∈ states ∧ ∀ i, e.step = some i → -9 ≤ i ∧ i ≤ 9
def GoodKey (states sorts : List Str) (k : K3) : Prop := k.1 ∈ states ∧ k.2.1 ∈ sorts ∧ k.2.2 ∈ ages
/-- the rows of a book, as a dict from keys to effects -/
def RowsK (H : Hp) : List (List Key × V) → List (K3 × Eff) → Prop := Paired fun p q => p.1 = k3 q.1 ∧ ∃ a, p.2 = .ref a ∧ H a = some (.tup (effV q.2))
def RowsAt (H : Hp) (d : Addr) (rows : List (K3 × Eff)) : Prop := ∃ kvs, H d = some (.dT kvs) ∧ RowsK H kvs rows
def GoodRows (states sorts : List Str) (rows : List (K3 × Eff)) : Prop := (rows.map (·.1)).Nodup ∧ rows.length ≤ 100 ∧ ∀ p ∈ rows, GoodKey states sorts p.1 ∧ GoodEff states p.2
theorem RowsK.same {H H' : Hp} (s : Same H H') {kvs : List (List Key × V)} {rows : List (K3 × Eff)} (r : RowsK H kvs rows) : RowsK H' kvs rows := Paired.mapP r fun p q ⟨h1, a, h2, h3⟩ => ⟨h1, a, h2, s _ _ h3⟩
theorem RowsK.keys {H : Hp} : ∀ {kvs : List (List Key × V)} {rows : List (K3 × Eff)}, RowsK H kvs rows → kvs.map (·.1) = (rows.map (·.1)).map k3
  | _, _, .nil => rfl
  | _, _, .cons h t => by rw [List.map_cons, List.map_cons, List.map_cons, h.1, RowsK.keys t]
theorem RowsK.len {H : Hp} {kvs : List (List Key × V)} {rows : List (K3 × Eff)} (r : RowsK H kvs rows) : kvs.length = rows.length := Paired.length r
theorem RowsK.get {H : Hp} : ∀ {kvs : List (List Key × V)} {rows : List (K3 × Eff)} {i : Nat} {p : List Key × V}, RowsK H kvs rows → kvs[i]? = some p → ∃ q, rows[i]? = some q ∧ p.1 = k3 q.1 ∧ ∃ a, p.2 = .ref a ∧ H a = some (.tup (effV q.2))
  | _, _, i, p, .nil, e => by simp at e
  | _, _, 0, p, .cons h t, e => by simp at e; subst e; exact ⟨_, rfl, h⟩
  | _, _, i + 1, p, .cons h t, e => by
    obtain ⟨q, e1, e2⟩ := RowsK.get (i := i) t (by simpa using e)
    exact ⟨q, by simpa using e1, e2⟩
/-- what a row tells of a key -/
def effAt (rows : List (K3 × Eff)) (k : K3) : Option Eff := (rows.find? fun p => p.1 = k).map (·.2)
theorem effAt_nil (k : K3) : effAt [] k = none := rfl
theorem effAt_cons (p : K3 × Eff) (rows : List (K3 × Eff)) (k : K3) : effAt (p :: rows) k = if p.1 = k then some p.2 else effAt rows k := by
  unfold effAt
  rw [List.find?_cons]
  by_cases h : p.1 = k
  · rw [decide_eq_true h, if_pos h]; rfl
  · rw [decide_eq_false h, if_neg h]
theorem effAt_mem {rows : List (K3 × Eff)} {p : K3 × Eff} (nd : (rows.map (·.1)).Nodup) (hp : p ∈ rows) : effAt rows p.1 = some p.2 := by
  induction rows with
  | nil => cases hp
  | cons q rows ih =>
    rw [effAt_cons]
    rw [List.map_cons, List.nodup_cons] at nd
    rcases List.mem_cons.mp hp with rfl | hp
    · rw [if_pos rfl]
    · rw [if_neg (fun e : q.1 = p.1 => nd.1 (by rw [e]; exact List.mem_map_of_mem hp))]
      exact ih nd.2 hp
theorem mem_effAt {rows : List (K3 × Eff)} {k : K3} {e : Eff} (h : effAt rows k = some e) : (k, e) ∈ rows := by
  induction rows with
  | nil => cases h
  | cons q rows ih =>
    rw [effAt_cons] at h
    by_cases c : q.1 = k
    · rw [if_pos c] at h
      injection h with h
      subst c h
      exact List.mem_cons_self
    · rw [if_neg c] at h
      exact List.mem_cons_of_mem _ (ih h)
theorem valV_cons {κ : Type} [DecidableEq κ] (p : κ × V) (kvs : List (κ × V)) (k : κ) : valV (p :: kvs) k = if p.1 = k then some p.2 else valV kvs k := by
  unfold valV
  rw [List.find?_cons]
  by_cases h : p.1 = k
  · rw [decide_eq_true h, if_pos h]; rfl
  · rw [decide_eq_false h, if_neg h]
theorem RowsK.val {H : Hp} {k : K3} : ∀ {kvs : List (List Key × V)} {rows : List (K3 × Eff)}, RowsK H kvs rows → (∀ e, effAt rows k = some e → ∃ a, valV kvs (k3 k) = some (.ref a) ∧ H a = some (.tup (effV e))) ∧ (effAt rows k = none → valV kvs (k3 k) = none)
  | _, _, .nil => ⟨fun e h => (nomatch h), fun _ => rfl⟩
  | _, _, .cons (a := p) (b := q) h t => by
    have ih := RowsK.val (k := k) t
    rw [effAt_cons, valV_cons]
    by_cases c : q.1 = k
    · have c' : p.1 = k3 k := by rw [h.1, c]
      rw [if_pos c, if_pos c']
      obtain ⟨_, a, h2, h3⟩ := h
      refine ⟨fun e he => ?_, fun z => by cases z⟩
      injection he with he
      subst he
      exact ⟨a, by rw [h2], h3⟩
    · have c' : ¬ p.1 = k3 k := by rw [h.1]; exact fun z => c (k3_inj z)
      rw [if_neg c, if_neg c']
      exact ih
theorem inV_str (z : Str) : ∀ ws : List Str, inV (.str z) (ws.map V.str) = decide (z ∈ ws)
  | [] => by simp [inV]
  | y :: ws => by
    have ih := inV_str z ws
    unfold inV at ih ⊢
    rw [List.map_cons, List.any_cons, ih]
    show ((y == z) || _) = _
    by_cases c : z = y
    · subst c; simp
    · have c' : (y == z) = false := beq_eq_false_iff_ne.mpr fun e => c e.symm
      rw [c', Bool.false_or]
      simp [c]
theorem flat_strs (ws : List Str) : (ws.map V.str).all flatV = true := List.all_eq_true.mpr fun x hx => by
  obtain ⟨z, _, rfl⟩ := List.mem_map.mp hx
  rfl
end HN

namespace HN
open PySem L2
/-- the module's constants -/
structure Cons (K : PySem.W.Frag) (mg : Str → Option Value) : Prop where
  ag : ∃ a, mg "AGES" = some (.ref a) ∧ ∀ H, SqT K H a (ages.map V.str)
  wh : ∃ t, mg "WHOLE" = some (.str "whole" t)
def spIdle : Sp := fun vs H Q _ => ∃ (z : Str), vs = [.str z] ∧ ∀ p, H p = none → Q (.ref p) (upd H p (.tup (effV (idle z))))
def spIsKey (K : PySem.W.Frag) : Sp := fun vs H Q _ => ∃ (b s t : Addr) (k : K3) (states sorts : List Str), vs = [.ref b, .ref s, .ref t] ∧ H b = some (.tup (v3 k)) ∧ SqL K H s (states.map V.str) ∧ SqL K H t (sorts.map V.str) ∧ GoodKey states sorts k ∧ ∀ H', Same H H' → Q (.bl true) H'
def spIsStep : Sp := fun vs H Q _ => ∃ (i : Option Int), vs = [stV i] ∧ (∀ j, i = some j → -9 ≤ j ∧ j ≤ 9) ∧ Q (.bl true) H
def spIsEffect (K : PySem.W.Frag) : Sp := fun vs H Q _ => ∃ (b s : Addr) (e : Eff) (states : List Str), vs = [.ref b, .ref s] ∧ H b = some (.tup (effV e)) ∧ SqL K H s (states.map V.str) ∧ GoodEff states e ∧ ∀ H', Same H H' → Q (.bl true) H'
section
variable {P : Program} {w : World} {K : PySem.W.Frag} {mg : Str → Option Value} {base : Heap}
theorem iteE {c : Bool} {A B : Prop} (hc : c = true) (h : A) : if c = true then A else B := by
  subst hc
  exact iteT h
theorem iteEF {c : Bool} {A B : Prop} (hc : c = false) (h : B) : if c = true then A else B := by
  subst hc
  exact iteF h
theorem scIdle : FnScope ["state"] ["state"] (defScope sIdle) := ⟨rfl, rfl, rfl, by decide +kernel, rfl, by decide +kernel, by decide +kernel⟩
theorem ok_idle {f : Addr} {fd : FuncData} (D : Def K mg "idle_effect" sIdle ["state"] f fd) : FnOk P w K mg base CX0 1 f fd ["state"] spIdle := by
  refine D.F.ok scIdle (fun vs H Q E h => ?_) (fun cdv A outer s H vs Q E hr h => ?_)
  · obtain ⟨z, rfl, _⟩ := h
    rfl
  · obtain ⟨z, rfl, k⟩ := h
    refine ⟨_, pss_one (ps_ret (pe_tup (pa_cons (pv 0) (pa_cons pe_bl (pa_cons pe_bl (pa_cons pe_int pa_nil)))))), ?_⟩
    exact ⟨_, rfl, by show 4 ≤ sizeLine; decide, fun p hp => k p hp⟩
theorem scIsKey : FnScope ["thing", "states", "sorts"] ["thing", "states", "sorts"] (defScope sIsKey) := ⟨rfl, rfl, rfl, by decide +kernel, rfl, by decide +kernel, by decide +kernel⟩
theorem ok_isKey {f fL : Addr} {fd fdL : FuncData} (D : Def K mg "is_key" sIsKey ["thing", "states", "sorts"] f fd) (T : Txt K mg) (C : Cons K mg) (DL : Def K mg "is_list" sIsList ["thing"] fL fdL) : FnOk P w K mg base CX0 2 f fd ["thing", "states", "sorts"] (spIsKey K) := by
  have GL : FnOk P w K mg base CX0 1 fL fdL ["thing"] (spIsList K) := ok_isList DL T
  obtain ⟨aA, mA, sA⟩ := C.ag
  refine D.F.ok scIsKey (fun vs H Q E h => ?_) (fun cdv A outer s H vs Q E hr h => ?_)
  · obtain ⟨b, s, t, k, states, sorts, rfl, _⟩ := h
    rfl
  · obtain ⟨b, s, t, k3', states, sorts, rfl, hb, hs, ht, ⟨g1, g2, g3⟩, k⟩ := h
    refine ⟨_, pss_one (ps_ret (pe_and (pe_call GL hr (by rfl) DL.m DL.F.kp DL.b .nil pass0 (pa_cons (pv 0) pa_nil))
      (pe_and (pe_cmpR op_eq (pe_callB call_len_seq (by rfl) T.len PySem.boot_len (pa_cons (pv 0) pa_nil)) pe_int (nomark _))
      (pe_and (pe_cmpR op_in_seq (pe_ix ix_tup (pv 0) pe_int (fun _ _ => rfl)) (pv 1) (by rfl))
      (pe_and (pe_cmpR op_in_seq (pe_ix ix_tup (pv 0) pe_int (fun _ _ => rfl)) (pv 2) (by rfl))
      (pe_one (pe_cmpR op_in_seq (pe_ix ix_tup (pv 0) pe_int (fun _ _ => rfl)) (pe_glob (v := .ref aA) (by rfl) mA rfl) (by rfl)))))))), ?_⟩
    have dp : Dp K H (.ref b) (.tuple [.str k3'.1, .str k3'.2.1, .str k3'.2.2]) := .tup (SqT.of hb) (.cons (.str _) (.cons (.str _) (.cons (.str _) .nil)))
    refine ⟨_, rfl, _, _, rfl, dp, fun H1 s1 => ⟨_, rfl, ?_⟩⟩
    have hb1 := s1 _ _ hb
    refine ⟨_, rfl, b, _, rfl, .inr (SqT.of hb1), rfl, _, rfl, ?_⟩
    refine ⟨_, rfl, b, _, 0, _, rfl, rfl, SqT.of hb1, rfl, _, rfl, s, _, rfl, .inl (s1.seq hs), rfl, flat_strs _, _, rfl, ?_⟩
    rw [if_neg Bool.false_ne_true, inV_str, decide_eq_true g1]
    refine ⟨_, rfl, b, _, 1, _, rfl, rfl, SqT.of hb1, rfl, _, rfl, t, _, rfl, .inl (s1.seq ht), rfl, flat_strs _, _, rfl, ?_⟩
    rw [if_neg Bool.false_ne_true, inV_str, decide_eq_true g2]
    refine ⟨_, rfl, b, _, 2, _, rfl, rfl, SqT.of hb1, rfl, aA, _, rfl, .inr (sA H1), rfl, flat_strs _, ?_⟩
    rw [if_neg Bool.false_ne_true, inV_str, decide_eq_true g3]
    exact k H1 s1
theorem scIsStep : FnScope ["thing"] ["thing"] (defScope sIsStep) := ⟨rfl, rfl, rfl, by decide +kernel, rfl, by decide +kernel, by decide +kernel⟩
theorem ok_isStep {f fW fI : Addr} {fd fdW fdI : FuncData} (D : Def K mg "is_step" sIsStep ["thing"] f fd) (T : Txt K mg) (C : Cons K mg) (DW : Def K mg "is_int_within" sIsIntWithin ["thing", "least", "greatest"] fW fdW) (DI : Def K mg "is_int" sIsInt ["thing"] fI fdI) :
    FnOk P w K mg base CX0 3 f fd ["thing"] spIsStep := by
  have GW : FnOk P w K mg base CX0 2 fW fdW ["thing", "least", "greatest"] (spWithin K) := ok_within DW T DI
  obtain ⟨tW, mW⟩ := C.wh
  refine D.F.ok scIsStep (fun vs H Q E h => ?_) (fun cdv A outer s H vs Q E hr h => ?_)
  · obtain ⟨i, rfl, _⟩ := h
    rfl
  · obtain ⟨i, rfl, hi, k⟩ := h
    refine ⟨_, pss_one (ps_ret (pe_or (pe_call GW hr (by rfl) DW.m DW.F.kp DW.b .nil pass0 (pa_cons (pv 0) (pa_cons (pe_un un_neg pe_int) (pa_cons pe_int pa_nil))))
      (pe_one (pe_cmpR op_eq (pv 0) (pe_glob (v := .str "whole") (by rfl) mW ⟨_, rfl⟩) (nomark _))))), ?_⟩
    cases i with
    | some j =>
      obtain ⟨a1, a2⟩ := hi j rfl
      refine ⟨_, rfl, _, rfl, _, .int j, -9, 9, rfl, .int j, _, rfl, ?_⟩
      have e : dWithin (-9) 9 (.int j) = true := by simp [dWithin, a1, a2]
      exact iteE e k
    | none =>
      refine ⟨_, rfl, _, rfl, _, .str "whole", -9, 9, rfl, .str _, _, rfl, ?_⟩
      refine ⟨_, rfl, rfl, ?_⟩
      have e : decide (V.str "whole" = V.str "whole") = true := decide_eq_true rfl
      show Q (.bl (decide (V.str "whole" = V.str "whole"))) _
      rw [e]
      exact k
theorem scIsEffect : FnScope ["thing", "states"] ["thing", "states"] (defScope sIsEffect) := ⟨rfl, rfl, rfl, by decide +kernel, rfl, by decide +kernel, by decide +kernel⟩
theorem ok_isEffect {f fL fS fW fI : Addr} {fd fdL fdS fdW fdI : FuncData} (D : Def K mg "is_effect" sIsEffect ["thing", "states"] f fd) (T : Txt K mg) (C : Cons K mg) (DL : Def K mg "is_list" sIsList ["thing"] fL fdL) (DS : Def K mg "is_step" sIsStep ["thing"] fS fdS)
    (DW : Def K mg "is_int_within" sIsIntWithin ["thing", "least", "greatest"] fW fdW) (DI : Def K mg "is_int" sIsInt ["thing"] fI fdI) : FnOk P w K mg base CX0 4 f fd ["thing", "states"] (spIsEffect K) := by
  have GL : FnOk P w K mg base CX0 1 fL fdL ["thing"] (spIsList K) := ok_isList DL T
  have GS : FnOk P w K mg base CX0 3 fS fdS ["thing"] spIsStep := ok_isStep DS T C DW DI
  refine D.F.ok scIsEffect (fun vs H Q E h => ?_) (fun cdv A outer s H vs Q E hr h => ?_)
  · obtain ⟨b, s, e, states, rfl, _⟩ := h
    rfl
  · obtain ⟨b, s, e, states, rfl, hb, hs, ⟨g1, g2⟩, k⟩ := h
    refine ⟨_, pss_one (ps_ret (pe_and (pe_call GL (hr.mono (by decide)) (by rfl) DL.m DL.F.kp DL.b .nil pass0 (pa_cons (pv 0) pa_nil))
      (pe_and (pe_cmpR op_eq (pe_callB call_len_seq (by rfl) T.len PySem.boot_len (pa_cons (pv 0) pa_nil)) pe_int (nomark _))
      (pe_and (pe_cmpR op_in_seq (pe_ix ix_tup (pv 0) pe_int (fun _ _ => rfl)) (pv 1) (by rfl))
      (pe_and (pe_callB call_isi (by rfl) T.isi (by decide +kernel) (pa_cons (pe_ix ix_tup (pv 0) pe_int (fun _ _ => rfl)) (pa_cons (pe_bltn (v := .ty "bool") (by rfl) T.bool (by decide +kernel) rfl) pa_nil)))
      (pe_and (pe_callB call_isi (by rfl) T.isi (by decide +kernel) (pa_cons (pe_ix ix_tup (pv 0) pe_int (fun _ _ => rfl)) (pa_cons (pe_bltn (v := .ty "bool") (by rfl) T.bool (by decide +kernel) rfl) pa_nil)))
      (pe_one (pe_call GS hr (by rfl) DS.m DS.F.kp DS.b .nil pass0 (pa_cons (pe_ix ix_tup (pv 0) pe_int (fun _ _ => rfl)) pa_nil))))))))), ?_⟩
    refine ⟨_, rfl, _, _, rfl, dp_eff (SqT.of hb), fun H1 s1 => ⟨_, rfl, ?_⟩⟩
    have hb1 := s1 _ _ hb
    refine ⟨_, rfl, b, _, rfl, .inr (SqT.of hb1), rfl, _, rfl, ?_⟩
    refine ⟨_, rfl, b, _, 0, _, rfl, rfl, SqT.of hb1, rfl, _, rfl, s, _, rfl, .inl (s1.seq hs), rfl, flat_strs _, _, rfl, ?_⟩
    rw [if_neg Bool.false_ne_true, inV_str, decide_eq_true g1]
    refine ⟨_, rfl, b, _, 1, _, rfl, rfl, SqT.of hb1, rfl, _, .ty "bool", _, _, _, rfl, .ty "bool", .base (.bl _), kit_isD (d := .bool e.hold), _, rfl, ?_⟩
    rw [isD_bool]
    refine ⟨_, rfl, b, _, 2, _, rfl, rfl, SqT.of hb1, rfl, _, .ty "bool", _, _, _, rfl, .ty "bool", .base (.bl _), kit_isD (d := .bool e.ring), _, rfl, ?_⟩
    rw [isD_bool]
    refine ⟨_, rfl, b, _, 3, _, rfl, rfl, SqT.of hb1, rfl, e.step, rfl, g2, ?_⟩
    exact k H1 s1
end
end HN

namespace HN
open PySem L2
theorem strOk_word {z : Str} (h : isWord z = true) : (PyData.str z).canLay0 = true := by
  simp only [isWord, Bool.and_eq_true] at h
  have a := h.2.2.1
  rw [PyData.canLay0]
  unfold Txt.isascii at a
  unfold PyData.strOk
  rw [Array.all_eq_true] at a ⊢
  intro i hi
  have := a i hi
  simp only [decide_eq_true_eq] at this ⊢
  omega
theorem eqv_eff (e f : Eff) : PyData.eqv (effD e) (effD f) = decide (e = f) := by
  obtain ⟨n1, h1, r1, s1⟩ := e
  obtain ⟨n2, h2, r2, s2⟩ := f
  rw [Bool.eq_iff_iff]
  cases s1 <;> cases s2 <;> simp [effD, stD, PyData.eqv, PyData.eqvAll]
theorem shaped_eff {e : Eff} (h : isWord e.nx = true) : SeqAt.shaped (effD e) = true := by
  have a := strOk_word h
  unfold SeqAt.shaped
  have b : (effD e).canLay0 = true := by
    obtain ⟨n, ho, r, s⟩ := e
    cases s with
    | none => simp [effD, stD, PyData.canLay0, PyData.canLayAll0] at a ⊢; exact ⟨a, by decide +kernel⟩
    | some i => simp [effD, stD, PyData.canLay0, PyData.canLayAll0] at a ⊢; exact a
  have c : (effD e).depth ≤ 64 := by
    obtain ⟨n, ho, r, s⟩ := e
    cases s <;> simp [effD, stD, PyData.depth, PyData.depthAll]
  rw [b, decide_eq_true c]; rfl
/-- the effects that a book keeps: by keys upwards, the idle ones left out -/
def sortK (rows : List (K3 × Eff)) : List K3 := (rows.map (·.1)).mergeSort le3
def sortR (rows : List (K3 × Eff)) : List (K3 × Eff) := (sortK rows).map fun k => (k, (effAt rows k).getD (idle k.1))
def told (rows : List (K3 × Eff)) : List (K3 × Eff) := (sortR rows).filter fun p => decide (¬ p.2 = idle p.1.1)
theorem sortK_perm (rows : List (K3 × Eff)) : (sortK rows).Perm (rows.map (·.1)) := List.mergeSort_perm _ _
theorem sortK_nd {rows : List (K3 × Eff)} (nd : (rows.map (·.1)).Nodup) : (sortK rows).Nodup := (sortK_perm rows).nodup_iff.mpr nd
theorem sortR_keys (rows : List (K3 × Eff)) : (sortR rows).map (·.1) = sortK rows := by
  unfold sortR
  rw [List.map_map]
  exact List.map_id _
theorem sortK_has {rows : List (K3 × Eff)} (nd : (rows.map (·.1)).Nodup) {k : K3} (h : k ∈ sortK rows) : ∃ e, effAt rows k = some e ∧ (k, e) ∈ rows := by
  have h' := (sortK_perm rows).mem_iff.mp h
  obtain ⟨p, hp, rfl⟩ := List.mem_map.mp h'
  exact ⟨p.2, effAt_mem nd hp, hp⟩
theorem effAt_none {rows : List (K3 × Eff)} {k : K3} (h : k ∉ rows.map (·.1)) : effAt rows k = none := by
  induction rows with
  | nil => rfl
  | cons q rows ih =>
    rw [List.map_cons, List.mem_cons, not_or] at h
    rw [effAt_cons, if_neg (fun e => h.1 e.symm)]
    exact ih h.2
theorem RowsK.app {H : Hp} {kvs : List (List Key × V)} {rows : List (K3 × Eff)} (r : RowsK H kvs rows) {k : K3} {e : Eff} {a : Addr} (ha : H a = some (.tup (effV e))) : RowsK H (kvs ++ [(k3 k, .ref a)]) (rows ++ [(k, e)]) := by
  induction r with
  | nil => exact .cons ⟨rfl, a, rfl, ha⟩ .nil
  | cons h t ih => exact .cons h ih
/-- a key that is new goes behind the others -/
theorem RowsK.put {H : Hp} {kvs : List (List Key × V)} {rows : List (K3 × Eff)} (r : RowsK H kvs rows) {k : K3} {e : Eff} {a : Addr} (hk : k ∉ rows.map (·.1)) (ha : H a = some (.tup (effV e))) : RowsK H (putK kvs (k3 k) (.ref a)) (rows ++ [(k, e)]) := by
  rw [putK_new _ ((RowsK.val (k := k) r).2 (effAt_none hk))]
  exact r.app ha
theorem take_nd {α : Type} {l : List α} (nd : l.Nodup) {i : Nat} {x : α} (h : l[i]? = some x) : x ∉ l.take i := by
  intro hm
  obtain ⟨j, hj⟩ := List.mem_iff_getElem?.mp hm
  rw [List.getElem?_take] at hj
  obtain ⟨hi, ei⟩ := List.getElem?_eq_some_iff.mp h
  split at hj
  · rename_i hji
    obtain ⟨hl, e⟩ := List.getElem?_eq_some_iff.mp hj
    exact absurd (e.trans ei.symm) (List.pairwise_iff_getElem.mp nd j i hl hi hji)
  · cases hj
def rTupOf (K : PySem.W.Frag) : List V → Hp → VK → Prop := fun xs H Q => ∃ p ys, xs = [.ref p] ∧ ((SqL K H p ys ∧ ∀ l, H l = none → Q (.ref l) (upd H l (.tup ys))) ∨ (SqT K H p ys ∧ Q (.ref p) H))
theorem cr_tupOf {X : Cx} : CallR X (.type "tuple") (rTupOf X.K) := call_tuple_of
def spToldEffects (K : PySem.W.Frag) : Sp := fun vs H Q _ => ∃ (d s t : Addr) (rows : List (K3 × Eff)) (states sorts : List Str), vs = [.ref d, .ref s, .ref t] ∧ RowsAt H d rows ∧ SqL K H s (states.map V.str) ∧ SqL K H t (sorts.map V.str) ∧ GoodRows states sorts rows ∧ (∀ z ∈ states, isWord z = true) ∧
  ∀ p H', Same H H' → H p = none → RowsAt H' p (told rows) → Q (.ref p) H'
section
variable {P : Program} {w : World} {K : PySem.W.Frag} {mg : Str → Option Value} {base : Heap}
theorem scToldE : FnScope ["rows", "states", "sorts", "key", "effects"] ["rows", "states", "sorts"] (defScope sToldEffects) := ⟨rfl, rfl, rfl, by decide +kernel, rfl, by decide +kernel, by decide +kernel⟩
theorem ok_toldEffects {f fK fE fI : Addr} {fd fdK fdE fdI : FuncData} (D : Def K mg "told_effects" sToldEffects ["rows", "states", "sorts"] f fd) (T : Txt K mg)
    (DK : Def K mg "is_key" sIsKey ["thing", "states", "sorts"] fK fdK) (GK : FnOk P w K mg base CX0 2 fK fdK ["thing", "states", "sorts"] (spIsKey K))
    (DE : Def K mg "is_effect" sIsEffect ["thing", "states"] fE fdE) (GE : FnOk P w K mg base CX0 4 fE fdE ["thing", "states"] (spIsEffect K))
    (DI : Def K mg "idle_effect" sIdle ["state"] fI fdI) (GI : FnOk P w K mg base CX0 1 fI fdI ["state"] spIdle) : FnOk P w K mg base CX0 5 f fd ["rows", "states", "sorts"] (spToldEffects K) := by
  refine D.F.ok scToldE (fun vs H Q E h => ?_) (fun cdv A outer s H vs Q E hr h => ?_)
  · obtain ⟨d, s, t, rows, states, sorts, rfl, _⟩ := h
    rfl
  · obtain ⟨d, ls, lt, rows, states, sorts, rfl, ⟨kvs, hd, hrk⟩, hs, ht, ⟨nd, hlen, hgood⟩, hz, k⟩ := h
    have hu := hu_of hr
    have hun := hr.units
    have hu0 := Nat.lt_of_le_of_lt (Nat.le_add_right _ 64) hun
    refine ⟨_, pss_cons (ps_if (pt_not (pt_val (pe_callB call_isi (by rfl) T.isi (by decide +kernel) (pa_cons (pv 0) (pa_cons (pe_bltn (v := .ty "dict") (by rfl) T.dict (by decide +kernel) rfl) pa_nil))))) (pss_one ps_never) pss_nil)
      (pss_cons (ps_lock (ps_for PassesOwn.never rfl (pi_keys (pv 0)) (pg_name (i := 3) scToldE.nd rfl (Or.inl rfl))
        (pss_one (ps_if (PW.pt (pw_or (pt_not (pt_val (pe_call GK (hr.mono (by decide)) (by rfl) DK.m DK.F.kp DK.b .nil pass0 (pa_cons (pv 3) (pa_cons (pv 1) (pa_cons (pv 2) pa_nil))))))
          (pw_or1 (pt_not (pt_val (pe_call GE hr (by rfl) DE.m DE.F.kp DE.b .nil pass0 (pa_cons (pe_dget hu (pv 0) (pv 3) (fun _ _ => rfl)) (pa_cons (pv 1) pa_nil)))))))) (pss_one ps_never) pss_nil))))
      (pss_cons (ps_set (i := 4) scToldE.nd rfl (Or.inr rfl) (pe_dt (own := [("key", 3)]) (g := gName 3) (tt := tYes) hu0 rfl scToldE.nd (pi_list (pe_callB (call_sorted3 rfl hun) (by rfl) T.sorted (by decide +kernel) (pa_cons (pv 0) pa_nil)))
        (blkOk_by (N := ["rows", "states", "sorts", "key", "effects"]) (sc := defScope sToldEffects) (by decide +kernel)) (fun _ _ _ _ _ => pg_name (i := 3) scToldE.nd rfl (Or.inl rfl)) (fun _ _ _ _ _ => pts_nil) (fun _ _ _ _ _ => pv 3)
        (fun _ _ _ _ _ => pe_callTy (T := "tuple") (r := rTupOf K) cr_tupOf (by rfl) T.tuple (by decide +kernel) (pa_cons (pe_dget hu (pv 0) (pv 3) (fun _ _ => rfl)) pa_nil))))
      (pss_one (ps_ret (pe_lock (pe_dt (own := [("key", 3)]) (g := gName 3) hu0 rfl scToldE.nd (pi_keys (pv 4))
        (blkOk_by (N := ["rows", "states", "sorts", "key", "effects"]) (sc := defScope sToldEffects) (by decide +kernel)) (fun _ _ _ _ _ => pg_name (i := 3) scToldE.nd rfl (Or.inl rfl))
        (fun _ _ _ _ _ => pts_one (pt_cmpR (r := rNeD K) (op_neD hun) (pe_dget hu (pv 4) (pv 3) (fun _ _ => rfl)) (pe_call GI (hr.mono (by decide)) (by rfl) DI.m DI.F.kp DI.b .nil pass0 (pa_cons (pe_ix (r := rIxT K) ix_tup (pv 3) pe_int (fun _ _ => rfl)) pa_nil)) (nomark _)))
        (fun _ _ _ _ _ => pv 3) (fun _ _ _ _ _ => pe_dget hu (pv 4) (pv 3) (fun _ _ => rfl)))))))), ?_⟩
    refine ⟨_, rfl, _, .ty "dict", _, _, true, rfl, .ty "dict", .base (.dT hd), kit_ty (by decide +kernel), _, rfl, ?_⟩
    -- every row is looked at, the dict locked
    refine ⟨d, _, hd, trivial, fun od => ?_⟩
    have hL : upd H d (.frz od (.dT kvs)) d = some (.frz od (.dT kvs)) := upd_same
    refine ⟨_, rfl, d, od, rfl, .inr ⟨kvs, hL, for_it walk_keysT (fun i σ H' => ∃ kv, σ = [some (.ref d), some (.ref ls), some (.ref lt), kv, none] ∧ Same (upd H d (.frz od (.dT kvs))) H') ⟨none, rfl, Same.refl _⟩ (fun i σ H' _ ⟨_, _, q⟩ => q _ _ hL) (fun i x σ H' H'' hi ⟨kv, hσ, q⟩ ⟨hH, key, v, b, hkv, hx, hb⟩ => ?_) (fun σ H' ⟨kv, hσ, q⟩ => ?_)⟩⟩
    · have hH' := hH.symm
      subst hσ hH' hx
      obtain ⟨row, hrow, ek, a, ev, ha⟩ := RowsK.get hrk hkv
      obtain ⟨gk, ge⟩ := hgood row (List.mem_of_getElem? hrow)
      have ek' : key = k3 row.1 := ek
      subst ek'
      have ev' : v = .ref a := ev
      subst ev'
      have lockd : ∀ b o, H b = some o → b ≠ d → H' b = some o := fun b o e n => q b o (by rw [upd_ne n]; exact e)
      have nls : ∀ {l : Addr} {ws : List Str}, SqL K H l (ws.map V.str) → SqL K H' l (ws.map V.str) := by
        intro l ws hl
        have nd' : ∀ {u}, H l = some u → (∀ kv, u ≠ .dT kv) → l ≠ d := fun e n z => by
          rw [z, hd] at e
          exact n kvs (Option.some.inj e).symm
        rcases hl with (e | ⟨o, e⟩) | e
        · exact .inl (.inl (lockd _ _ e (nd' e fun _ z => nomatch z)))
        · exact .inl (.inr ⟨o, lockd _ _ e (nd' e fun _ z => nomatch z)⟩)
        · exact .inr e
      have ha' : H' a = some (.tup (effV row.2)) := lockd _ _ ha fun z => by
        rw [z, hd] at ha
        cases ha
      refine ⟨_, rfl, _, rfl, _, rfl, b, ls, lt, row.1, states, sorts, rfl, hb, nls hs, nls ht, gk, fun H1 s1 => ⟨_, rfl, ?_⟩⟩
      obtain ⟨a2, va, ha2⟩ := (RowsK.val (k := row.1) hrk).1 row.2 (effAt_mem nd (List.mem_of_getElem? hrow))
      have ha2' : H' a2 = some (.tup (effV row.2)) := lockd _ _ ha2 fun z => by
        rw [z, hd] at ha2
        cases ha2
      refine ⟨_, rfl, _, rfl, d, .ref a2, rfl, .inr ⟨kvs, k3 row.1, b, .inr ⟨od, s1 _ _ (q _ _ hL)⟩, rfl, s1 _ _ hb, va.symm⟩, _, rfl, a2, ls, row.2, states, rfl, s1 _ _ ha2', s1.seq (nls hs), ge, fun H2 s2 => ⟨_, rfl, ?_⟩⟩
      exact ⟨_, rfl, (q.trans s1).trans s2⟩
    -- behind it the dict is as it was
    subst hσ
    refine ⟨q _ _ hL, ?_⟩
    have s2 := same_unlock hd q
    obtain ⟨H2, hH2⟩ : ∃ H2, H2 = upd H' d (.dT kvs) := ⟨_, rfl⟩
    rw [← hH2] at s2 ⊢
    have hd2 := s2 _ _ hd
    refine ⟨_, rfl, d, kvs, rows.map (·.1), rfl, .inl hd2, RowsK.keys hrk, by rw [List.length_map]; omega, fun ps p hps0 hpt hp => ?_⟩
    have hps : ps.map (·.2) = sortK rows := hps0
    obtain ⟨H3, hH3⟩ : ∃ H3, H3 = upd H2 p (.lst (ps.map fun b => V.ref b.1)) := ⟨_, rfl⟩
    have s3 : Same H2 H3 := by rw [hH3]; exact same_new hp
    have hp3 : H3 p = some (.lst (ps.map fun b => V.ref b.1)) := by rw [hH3]; exact upd_same
    rw [← hH3]
    have knd := sortK_nd nd
    have lps : ps.length = (sortK rows).length := by rw [← hps, List.length_map]
    refine ⟨p, rfl, ⟨_, SqL.of hp3⟩, fun D hD => goT_it walk_list (fun i H' => Same H3 H' ∧ ∃ kv', H' D = some (.dT kv') ∧ RowsK H' kv' ((sortR rows).take i)) ⟨same_new hD, [], upd_same, by rw [List.take_zero]; exact .nil⟩ (fun i H' _ q => SqL.of (q.1 _ _ hp3)) (fun i x H' H'' hi q y => ?_) (fun H' q => ?_)⟩
    · obtain ⟨hH, hx⟩ := y
      subst hH
      rw [List.getElem?_map] at hx
      rw [List.length_map] at hi
      rw [List.getElem?_eq_getElem hi] at hx
      have hx' : x = V.ref ps[i].1 := (Option.some.inj hx).symm
      subst hx'
      obtain ⟨sq, kv', hD', rk'⟩ := q
      have hbi := hpt ps[i] (List.getElem_mem hi)
      have hki : (sortK rows)[i]? = some ps[i].2 := by
        have z := congrArg (fun l => l[i]?) hps
        simp only [List.getElem?_map, List.getElem?_eq_getElem hi, Option.map_some] at z
        exact z.symm
      obtain ⟨e, he, hmem⟩ := sortK_has nd (List.mem_of_getElem? hki)
      obtain ⟨a, va, ha⟩ := (RowsK.val (k := ps[i].2) hrk).1 e he
      have sH := s2.trans (s3.trans sq)
      have hb' := (s3.trans sq) _ _ hbi
      refine ⟨rfl, ?_⟩
      refine ⟨_, rfl, _, rfl, _, rfl, d, .ref a, rfl, DGet.t (sH _ _ hd) hb' |> fun z => va ▸ z, a, effV e, rfl, .inr ⟨SqT.of (sH _ _ ha), ?_⟩⟩
      have er : (sortR rows)[i]? = some (ps[i].2, e) := by
        unfold sortR
        rw [List.getElem?_map, hki, Option.map_some, he]; rfl
      refine ⟨kv', k3 ps[i].2, ps[i].1, rfl, hb', hD', ?_, ?_, ?_⟩
      · rw [RowsK.len rk', List.length_take]
        have : (sortR rows).length = rows.length := by rw [← List.length_map (f := (·.1)), sortR_keys, (sortK_perm rows).length_eq, List.length_map]
        exact Nat.lt_of_le_of_lt (by omega : _ ≤ 100) (by decide)
      · intro b o hbo
        rw [upd_ne (ne_of_none hbo hD)]
        exact sq b o hbo
      · refine ⟨_, upd_same, ?_⟩
        rw [take_more er]
        have sD : RowsK (upd H'' D (.dT (putK kv' (k3 ps[i].2) (.ref a)))) kv' ((sortR rows).take i) := Paired.mapP rk' fun x y ⟨h1, c, h2, h3⟩ => ⟨h1, c, h2, by rw [upd_ne (ne_of h3 hD' (fun z => nomatch z))]; exact h3⟩
        refine sD.put ?_ ?_
        · rw [List.map_take, sortR_keys]
          exact take_nd knd hki
        · have h3 := sH _ _ ha
          rw [upd_ne (ne_of h3 hD' (fun z => nomatch z))]; exact h3
    -- the idle ones are left out
    rw [List.length_map, lps] at q
    obtain ⟨s4, kv', hD', rk'⟩ := q
    have lsr : (sortR rows).length = (sortK rows).length := by rw [← sortR_keys, List.length_map]
    rw [List.take_of_length_le (Nat.le_of_eq lsr)] at rk'
    have sH := s2.trans (s3.trans s4)
    refine ⟨D, _, hD', trivial, fun od2 => ?_⟩
    obtain ⟨H5, hH5⟩ : ∃ H5, H5 = upd H' D (.frz od2 (.dT kv')) := ⟨_, rfl⟩
    have hD5 : H5 D = some (.frz od2 (.dT kv')) := by rw [hH5]; exact upd_same
    rw [← hH5]
    have s5 : ∀ b o, H' b = some o → b ≠ D → H5 b = some o := fun b o e n => by rw [hH5, upd_ne n]; exact e
    have nDrows : ∀ {a : Addr} {xs : List V}, H' a = some (.tup xs) → H5 a = some (.tup xs) := fun e => s5 _ _ e (ne_of e hD' (fun z => nomatch z))
    refine ⟨_, rfl, D, od2, rfl, .inr ⟨kv', hD5, fun D2 hD2 => goT_it walk_keysT (fun i H6 => Same H5 H6 ∧ ∃ kv2, H6 D2 = some (.dT kv2) ∧ RowsK H6 kv2 (((sortR rows).take i).filter fun p => decide (¬ p.2 = idle p.1.1))) ⟨same_new hD2, [], upd_same, by rw [List.take_zero]; exact .nil⟩ (fun i H6 _ q => q.1 _ _ hD5) (fun i x H6 H7 hi q y => ?_) (fun H6 q => ?_)⟩⟩
    · obtain ⟨hH, key, v, b, hkv, hx, hb⟩ := y
      have hH' := hH.symm
      subst hH' hx
      obtain ⟨s6, kv2, hD26, rk2⟩ := q
      obtain ⟨row, hrow, ek, a, ev, ha⟩ := RowsK.get rk' hkv
      have ek' : key = k3 row.1 := ek
      subst ek'
      have ev' : v = .ref a := ev
      subst ev'
      have nds : ((sortR rows).map (·.1)).Nodup := by rw [sortR_keys]; exact knd
      have hki : (sortK rows)[i]? = some row.1 := by rw [← sortR_keys, List.getElem?_map, hrow]; rfl
      obtain ⟨a1, va, ha1⟩ := (RowsK.val (k := row.1) rk').1 row.2 (effAt_mem nds (List.mem_of_getElem? hrow))
      have ha6 := s6 _ _ (nDrows ha1)
      have wk : isWord row.1.1 = true ∧ isWord row.2.nx = true := by
        obtain ⟨e, he, hm⟩ := sortK_has nd (List.mem_of_getElem? hki)
        have e2 : row.2 = e := by
          have : (sortR rows)[i]? = some (row.1, e) := by
            unfold sortR
            rw [List.getElem?_map, hki, Option.map_some, he]; rfl
          rw [this] at hrow
          exact (congrArg (·.2) (Option.some.inj hrow)).symm
        obtain ⟨g1, g2⟩ := hgood _ hm
        exact ⟨hz _ g1.1, by rw [e2]; exact hz _ g2.1⟩
      have dg : DGet H6 D (.ref b) (some (.ref a1)) := .inr ⟨kv', k3 row.1, b, .inr ⟨od2, s6 _ _ hD5⟩, rfl, hb, va.symm⟩
      refine ⟨rfl, ?_⟩
      refine ⟨_, rfl, _, rfl, D, .ref a1, rfl, dg, _, rfl, b, v3 row.1, 0, .str row.1.1, rfl, rfl, SqT.of hb, rfl, row.1.1, rfl, fun p7 hp7 => ?_⟩
      have s7 := same_new (o := .tup (effV (idle row.1.1))) hp7
      refine ⟨effD row.2, effD (idle row.1.1), dp_eff (SqT.of (s7 _ _ ha6)), dp_eff (SqT.of upd_same), shaped_eff wk.2, shaped_eff wk.1, _, rfl, ?_⟩
      rw [eqv_eff]
      have keep : Same H5 (upd H6 p7 (.tup (effV (idle row.1.1)))) := s6.trans s7
      have hD27 := s7 _ _ hD26
      have rk7 : RowsK (upd H6 p7 (.tup (effV (idle row.1.1)))) kv2 (((sortR rows).take i).filter fun p => decide (¬ p.2 = idle p.1.1)) := rk2.same s7
      by_cases c : row.2 = idle row.1.1
      · refine iteEF (by simp [c]) ?_
        refine ⟨keep, kv2, hD27, ?_⟩
        rw [take_more hrow, List.filter_append]
        have : ([row].filter fun p : K3 × Eff => decide (¬ p.2 = idle p.1.1)) = [] := by simp [c]
        rw [this, List.append_nil]
        exact rk7
      · refine iteE (by simp [c]) ?_
        refine ⟨_, rfl, _, rfl, _, rfl, D, .ref a1, rfl, .inr ⟨kv', k3 row.1, b, .inr ⟨od2, s7 _ _ (s6 _ _ hD5)⟩, rfl, s7 _ _ hb, va.symm⟩, ?_⟩
        refine ⟨kv2, k3 row.1, b, rfl, s7 _ _ hb, hD27, ?_, ?_, ?_⟩
        · rw [RowsK.len rk7]
          have z1 := List.length_filter_le (fun p : K3 × Eff => decide (¬ p.2 = idle p.1.1)) ((sortR rows).take i)
          have z2 : ((sortR rows).take i).length ≤ (sortR rows).length := by rw [List.length_take]; omega
          have z3 : (sortR rows).length = rows.length := by rw [lsr, (sortK_perm rows).length_eq, List.length_map]
          exact Nat.lt_of_le_of_lt (by omega : _ ≤ 100) (by decide)
        · intro b' o hbo
          rw [upd_ne (ne_of_none hbo hD2)]
          exact keep b' o hbo
        · refine ⟨_, upd_same, ?_⟩
          rw [take_more hrow, List.filter_append]
          have : ([row].filter fun p : K3 × Eff => decide (¬ p.2 = idle p.1.1)) = [row] := by simp [c]
          rw [this]
          have sD : RowsK (upd (upd H6 p7 (.tup (effV (idle row.1.1)))) D2 (.dT (putK kv2 (k3 row.1) (.ref a1)))) kv2 (((sortR rows).take i).filter fun p => decide (¬ p.2 = idle p.1.1)) := Paired.mapP rk7 fun x y ⟨h1, c', h2, h3⟩ => ⟨h1, c', h2, by rw [upd_ne (ne_of h3 hD27 (fun z => nomatch z))]; exact h3⟩
          refine sD.put (k := row.1) (e := row.2) ?_ ?_
          · intro hm
            obtain ⟨p', hp', e'⟩ := List.mem_map.mp hm
            have hp2 := (List.mem_filter.mp hp').1
            have : row.1 ∈ (sortK rows).take i := by
              rw [← sortR_keys, ← List.map_take]
              exact List.mem_map.mpr ⟨p', hp2, e'⟩
            exact take_nd knd hki this
          · have h3 := s7 _ _ ha6
            rw [upd_ne (ne_of h3 hD27 (fun z => nomatch z))]; exact h3
    · obtain ⟨s6, kv2, hD26, rk2⟩ := q
      refine ⟨s6 _ _ hD5, ?_⟩
      rw [RowsK.len rk', List.take_length] at rk2
      have s8 := same_unlock hD' (by rw [← hH5]; exact s6)
      have nDD : D2 ≠ D := fun z => by
        rw [z, hD5] at hD2
        cases hD2
      refine k D2 _ (sH.trans s8) ?_ ⟨kv2, by rw [upd_ne nDD]; exact hD26, Paired.mapP rk2 fun x y ⟨h1, c', h2, h3⟩ => ⟨h1, c', h2, ?_⟩⟩
      · have n5 : H' D2 = none := by
          rw [hH5, upd_ne nDD] at hD2
          exact hD2
        exact sH.free n5
      · have : c' ≠ D := ne_of h3 (s6 _ _ hD5) (fun z => nomatch z)
        rw [upd_ne this]; exact h3
end
end HN

namespace HN
open PySem L2
/-! ### worths -/
def wK (ws : List (Str × Int)) : List (Key × V) := ws.map fun p => (.inr p.1, .int p.2)
def WorthsAt (H : Hp) (c : Addr) (ws : List (Str × Int)) : Prop := H c = some (.dK (wK ws))
def GoodWorths (states : List Str) (ws : List (Str × Int)) : Prop := (ws.map (·.1)).Nodup ∧ ws.length ≤ 100 ∧ ∀ p ∈ ws, p.1 ∈ states ∧ -9 ≤ p.2 ∧ p.2 ≤ 9
def wAt (ws : List (Str × Int)) (z : Str) : Option Int := (ws.find? fun p => p.1 = z).map (·.2)
def wOf (ws : List (Str × Int)) (z : Str) : Int := (wAt ws z).getD 0
def toldW (ws : List (Str × Int)) : List (Str × Int) := ws.filter fun p => decide (¬ p.2 = 0)
theorem wAt_cons (p : Str × Int) (ws : List (Str × Int)) (z : Str) : wAt (p :: ws) z = if p.1 = z then some p.2 else wAt ws z := by
  unfold wAt
  rw [List.find?_cons]
  by_cases h : p.1 = z
  · rw [decide_eq_true h, if_pos h]; rfl
  · rw [decide_eq_false h, if_neg h]
theorem wAt_mem {ws : List (Str × Int)} {p : Str × Int} (nd : (ws.map (·.1)).Nodup) (hp : p ∈ ws) : wAt ws p.1 = some p.2 := by
  induction ws with
  | nil => cases hp
  | cons q ws ih =>
    rw [wAt_cons]
    rw [List.map_cons, List.nodup_cons] at nd
    rcases List.mem_cons.mp hp with rfl | hp
    · rw [if_pos rfl]
    · rw [if_neg (fun e : q.1 = p.1 => nd.1 (by rw [e]; exact List.mem_map_of_mem hp))]
      exact ih nd.2 hp
theorem wAt_none {ws : List (Str × Int)} {z : Str} (h : z ∉ ws.map (·.1)) : wAt ws z = none := by
  induction ws with
  | nil => rfl
  | cons q ws ih =>
    rw [List.map_cons, List.mem_cons, not_or] at h
    rw [wAt_cons, if_neg (fun e => h.1 e.symm)]
    exact ih h.2
theorem valV_wK (ws : List (Str × Int)) (z : Str) : valV (wK ws) (Sum.inr z) = (wAt ws z).map V.int := by
  induction ws with
  | nil => rfl
  | cons q ws ih =>
    show valV ((Sum.inr q.1, V.int q.2) :: wK ws) _ = _
    rw [valV_cons, wAt_cons]
    by_cases h : q.1 = z
    · rw [if_pos h, if_pos (by rw [h])]; rfl
    · rw [if_neg h, if_neg (fun e => h (Sum.inr.inj e))]; exact ih
theorem wK_len (ws : List (Str × Int)) : (wK ws).length = ws.length := List.length_map ..
theorem wK_get {ws : List (Str × Int)} {i : Nat} {k : Key} {v : V} (h : (wK ws)[i]? = some (k, v)) : ∃ p, ws[i]? = some p ∧ k = .inr p.1 ∧ v = .int p.2 := by
  unfold wK at h
  rw [List.getElem?_map] at h
  cases e : ws[i]? with
  | none => rw [e] at h; cases h
  | some p =>
    rw [e] at h
    have := Option.some.inj h
    exact ⟨p, rfl, (congrArg (·.1) this).symm, (congrArg (·.2) this).symm⟩
theorem putK_wK {ws : List (Str × Int)} {z : Str} {n : Int} (h : z ∉ ws.map (·.1)) : putK (wK ws) (Sum.inr z : Key) (.int n) = wK (ws ++ [(z, n)]) := by
  rw [putK_new _ (by rw [valV_wK, wAt_none h]; rfl)]
  unfold wK
  rw [List.map_append]; rfl
def spToldWorths (K : PySem.W.Frag) : Sp := fun vs H Q _ => ∃ (x : V) (s : Addr) (ws : List (Str × Int)) (states : List Str), vs = [x, .ref s] ∧ SqL K H s (states.map V.str) ∧ GoodWorths states ws ∧ ((x = .non ∧ ws = []) ∨ ∃ c, x = .ref c ∧ WorthsAt H c ws) ∧
  ∀ p H', Same H H' → H p = none → WorthsAt H' p (toldW ws) → Q (.ref p) H'
section
variable {P : Program} {w : World} {K : PySem.W.Frag} {mg : Str → Option Value} {base : Heap}
theorem scToldW : FnScope ["worths", "states", "word"] ["worths", "states"] (defScope sToldWorths) := ⟨rfl, rfl, rfl, by decide +kernel, rfl, by decide +kernel, by decide +kernel⟩
theorem ok_toldWorths {f fW : Addr} {fd fdW : FuncData} (D : Def K mg "told_worths" sToldWorths ["worths", "states"] f fd) (T : Txt K mg)
    (DW : Def K mg "is_int_within" sIsIntWithin ["thing", "least", "greatest"] fW fdW) (GW : FnOk P w K mg base CX0 2 fW fdW ["thing", "least", "greatest"] (spWithin K)) : FnOk P w K mg base CX0 3 f fd ["worths", "states"] (spToldWorths K) := by
  refine D.F.ok scToldW (fun vs H Q E h => ?_) (fun cdv A outer s H vs Q E hr h => ?_)
  · obtain ⟨x, s, ws, states, rfl, _⟩ := h
    rfl
  · obtain ⟨x, ls, ws, states, rfl, hs, ⟨nd, hlen, hg⟩, hx, k⟩ := h
    have hu := hu_of hr
    refine ⟨_, pss_cons (ps_if (pt_cmp (pc_isN (pv 0))) (pss_one (ps_ret pe_dnewK)) pss_nil)
      (pss_cons (ps_if (pt_not (pt_val (pe_callB call_isi (by rfl) T.isi (by decide +kernel) (pa_cons (pv 0) (pa_cons (pe_bltn (v := .ty "dict") (by rfl) T.dict (by decide +kernel) rfl) pa_nil))))) (pss_one ps_never) pss_nil)
      (pss_cons (ps_lock (ps_for PassesOwn.never rfl (pi_keys (pv 0)) (pg_name (i := 2) scToldW.nd rfl (Or.inl rfl))
        (pss_one (ps_if (PW.pt (pw_or (pt_cmpR op_notIn_seq (pv 2) (pv 1) (by rfl))
          (pw_or1 (pt_not (pt_val (pe_call GW hr (by rfl) DW.m DW.F.kp DW.b .nil pass0 (pa_cons (pe_dget hu (pv 0) (pv 2) (fun _ _ => rfl)) (pa_cons (pe_un un_neg pe_int) (pa_cons pe_int pa_nil))))))))) (pss_one ps_never) pss_nil))))
      (pss_one (ps_ret (pe_lock (pe_dc (own := [("word", 2)]) (g := gName 2) rfl scToldW.nd (pi_keys (pv 0))
        (blkOk_by (N := ["worths", "states", "word"]) (sc := defScope sToldWorths) (by decide +kernel)) (fun _ _ _ _ _ => pg_name (i := 2) scToldW.nd rfl (Or.inl rfl))
        (fun _ _ _ _ _ => pts_one (pt_cmpR (r := rNe) op_ne (pe_dget hu (pv 0) (pv 2) (fun _ _ => rfl)) pe_int (nomark _)))
        (fun _ _ _ _ _ => pv 2) (fun _ _ _ _ _ => pe_dget hu (pv 0) (pv 2) (fun _ _ => rfl)))))))), ?_⟩
    rcases hx with ⟨rfl, rfl⟩ | ⟨d, rfl, hd⟩
    · exact ⟨_, rfl, _, rfl, fun p hp => k p _ (same_new hp) hp upd_same⟩
    refine ⟨_, rfl, _, rfl, ?_⟩
    refine ⟨_, rfl, _, .ty "dict", _, _, true, rfl, .ty "dict", .base (.dK hd), kit_ty (by decide +kernel), _, rfl, ?_⟩
    refine ⟨d, _, hd, trivial, fun od => ?_⟩
    have hL : upd H d (.frz od (.dK (wK ws))) d = some (.frz od (.dK (wK ws))) := upd_same
    have nls : ∀ {H' : Hp}, Same (upd H d (.frz od (.dK (wK ws)))) H' → SqL K H' ls (states.map V.str) := by
      intro H' q
      have nd' : ∀ {u}, H ls = some u → (∀ kv, u ≠ .dK kv) → ls ≠ d := fun e n z => by
        rw [z, hd] at e
        exact n _ (Option.some.inj e).symm
      rcases hs with (e | ⟨o, e⟩) | e
      · exact .inl (.inl (q _ _ (by rw [upd_ne (nd' e fun _ z => nomatch z)]; exact e)))
      · exact .inl (.inr ⟨o, q _ _ (by rw [upd_ne (nd' e fun _ z => nomatch z)]; exact e)⟩)
      · exact .inr e
    refine ⟨_, rfl, d, od, rfl, .inl ⟨wK ws, hL, for_it walk_keys (fun i σ H' => ∃ kv, σ = [some (.ref d), some (.ref ls), kv] ∧ Same (upd H d (.frz od (.dK (wK ws)))) H') ⟨none, rfl, Same.refl _⟩ (fun i σ H' _ ⟨_, _, q⟩ => q _ _ hL) (fun i x σ H' H'' hi ⟨kv, hσ, q⟩ y => ?_) (fun σ H' ⟨kv, hσ, q⟩ => ?_)⟩⟩
    · obtain ⟨hH, key, v, hkv, hx⟩ := y
      obtain ⟨p, hp, ek, ev⟩ := wK_get hkv
      subst hσ hH hx ek ev
      have hm := List.mem_of_getElem? hp
      obtain ⟨g1, g2, g3⟩ := hg p hm
      refine ⟨_, rfl, _, rfl, ls, _, rfl, .inl (nls q), rfl, flat_strs _, _, rfl, ?_⟩
      have hin : inV (kV (Sum.inr p.1)) (states.map V.str) = true := (inV_str _ _).trans (decide_eq_true g1)
      rw [if_pos rfl]
      refine iteEF (by rw [hin]; rfl) ?_
      refine ⟨_, rfl, _, rfl, d, .int p.2, rfl, .inl ⟨_, Sum.inr p.1, .inr ⟨od, q _ _ hL⟩, rfl, by rw [valV_wK, wAt_mem nd hm]; rfl⟩, _, rfl, _, .int p.2, -9, 9, rfl, .int _, _, rfl, ?_⟩
      have e : dWithin (-9) 9 (.int p.2) = true := by simp [dWithin, g2, g3]
      refine iteEF (by rw [e]; rfl) ?_
      exact ⟨_, rfl, q⟩
    subst hσ
    refine ⟨q _ _ hL, ?_⟩
    have s2 := same_unlock hd q
    obtain ⟨H2, hH2⟩ : ∃ H2, H2 = upd H' d (.dK (wK ws)) := ⟨_, rfl⟩
    rw [← hH2] at s2 ⊢
    have hd2 := s2 _ _ hd
    refine ⟨d, _, hd2, trivial, fun od2 => ?_⟩
    obtain ⟨H5, hH5⟩ : ∃ H5, H5 = upd H2 d (.frz od2 (.dK (wK ws))) := ⟨_, rfl⟩
    have hD5 : H5 d = some (.frz od2 (.dK (wK ws))) := by rw [hH5]; exact upd_same
    rw [← hH5]
    refine ⟨_, rfl, d, od2, rfl, .inl ⟨wK ws, hD5, fun D2 hD2 => dc_it walk_keys (fun i H6 => Same H5 H6 ∧ H6 D2 = some (.dK (wK ((ws.take i).filter fun p => decide (¬ p.2 = 0))))) ⟨same_new hD2, by rw [upd_same]; rfl⟩ (fun i H6 _ q => q.1 _ _ hD5) (fun i x H6 H7 hi q y => ?_) (fun H6 q => ?_)⟩⟩
    · obtain ⟨hH, key, v, hkv, hx⟩ := y
      obtain ⟨p, hp, ek, ev⟩ := wK_get hkv
      subst hH hx ek ev
      obtain ⟨s6, h6⟩ := q
      have hm := List.mem_of_getElem? hp
      have dg : DGet H7 d (.str p.1) (some (.int p.2)) := .inl ⟨_, Sum.inr p.1, .inr ⟨od2, s6 _ _ hD5⟩, rfl, by rw [valV_wK, wAt_mem nd hm]; rfl⟩
      refine ⟨rfl, ?_⟩
      refine ⟨_, rfl, _, rfl, d, .int p.2, rfl, dg, rfl, _, rfl, ?_⟩
      have ed : decide (V.int p.2 = V.int 0) = decide (p.2 = 0) := by simp
      by_cases c : p.2 = 0
      · refine iteEF (by rw [ed]; simp [c]) ⟨s6, ?_⟩
        rw [take_more hp, List.filter_append]
        have : ([p].filter fun p : Str × Int => decide (¬ p.2 = 0)) = [] := by simp [c]
        rw [this, List.append_nil]
        exact h6
      · refine iteE (by rw [ed]; simp [c]) ?_
        refine ⟨_, rfl, _, rfl, _, rfl, d, .int p.2, rfl, dg, _, Sum.inr p.1, rfl, h6, ?_, ?_, ?_⟩
        · rw [wK_len]
          have z1 := List.length_filter_le (fun p : Str × Int => decide (¬ p.2 = 0)) (ws.take i)
          have z2 : (ws.take i).length ≤ ws.length := by rw [List.length_take]; omega
          exact Nat.lt_of_le_of_lt (by omega : _ ≤ 100) (by decide)
        · intro b' o hbo
          rw [upd_ne (ne_of_none hbo hD2)]
          exact s6 b' o hbo
        · rw [upd_same, putK_wK, take_more hp, List.filter_append]
          · have : ([p].filter fun p : Str × Int => decide (¬ p.2 = 0)) = [p] := by simp [c]
            rw [this]
          · intro hm2
            obtain ⟨p', hp', e'⟩ := List.mem_map.mp hm2
            have hp2 := (List.mem_filter.mp hp').1
            have hk : (ws.map (·.1))[i]? = some p.1 := by rw [List.getElem?_map, hp]; rfl
            refine take_nd nd hk ?_
            rw [← List.map_take]
            exact List.mem_map.mpr ⟨p', hp2, e'⟩
    · obtain ⟨s6, h6⟩ := q
      rw [wK_len, List.take_length] at h6
      refine ⟨s6 _ _ hD5, ?_⟩
      have s8 := same_unlock hd2 (by rw [← hH5]; exact s6)
      have nDD : D2 ≠ d := fun z => by
        rw [z, hD5] at hD2
        cases hD2
      refine k D2 _ (s2.trans s8) ?_ (by unfold WorthsAt; rw [upd_ne nDD]; exact h6)
      have n5 : H2 D2 = none := by
        rw [hH5, upd_ne nDD] at hD2
        exact hD2
      exact s2.free n5
end
end HN

namespace HN
open PySem L2
abbrev sBInit : Stmt := inClass sBook 0
abbrev sBStates : Stmt := inClass sBook 2
abbrev sBSorts : Stmt := inClass sBook 3
abbrev sBFirst : Stmt := inClass sBook 4
abbrev sBWorth : Stmt := inClass sBook 5
abbrev sBEffect : Stmt := inClass sBook 6
abbrev sBRows : Stmt := inClass sBook 7
structure Bk where
  states : List Str
  sorts : List Str
  first : Str
  rows : List (K3 × Eff)
  worths : List (Str × Int)
def bkF (s t : Addr) (first : Str) (e w tr : Addr) : List (Str × V) := putF "_traits" (.ref tr) (putF "_worths" (.ref w) (putF "_effects" (.ref e) (putF "_first" (.str first) (putF "_sorts" (.ref t) (putF "_states" (.ref s) [])))))
def BookAt (C : Addr) (H : Hp) (p : Addr) (B : Bk) : Prop := ∃ dx s t e w tr, H p = some (.ins C dx (bkF s t B.first e w tr)) ∧ H s = some (.lst (B.states.map V.str)) ∧ H t = some (.lst (B.sorts.map V.str)) ∧ RowsAt H e B.rows ∧ WorthsAt H w B.worths
theorem RowsAt.same {H H' : Hp} (s : Same H H') {d : Addr} {rows : List (K3 × Eff)} (r : RowsAt H d rows) : RowsAt H' d rows := let ⟨kvs, h1, h2⟩ := r; ⟨kvs, s _ _ h1, h2.same s⟩
theorem BookAt.same {C : Addr} {H H' : Hp} (sm : Same H H') {p : Addr} {B : Bk} (b : BookAt C H p B) : BookAt C H' p B := let ⟨dx, s, t, e, w, tr, h1, h2, h3, h4, h5⟩ := b; ⟨dx, s, t, e, w, tr, sm _ _ h1, sm _ _ h2, sm _ _ h3, h4.same sm, sm _ _ h5⟩
section
variable (s t : Addr) (first : Str) (e w tr : Addr)
theorem bkF_states : (bkF s t first e w tr).lookup ("_states" : Str) = some (V.ref s) := by
  unfold bkF
  rw [lookup_putF, if_neg (by decide +kernel), lookup_putF, if_neg (by decide +kernel), lookup_putF, if_neg (by decide +kernel), lookup_putF, if_neg (by decide +kernel), lookup_putF, if_neg (by decide +kernel), lookup_putF, if_pos rfl]
theorem bkF_sorts : (bkF s t first e w tr).lookup ("_sorts" : Str) = some (V.ref t) := by
  unfold bkF
  rw [lookup_putF, if_neg (by decide +kernel), lookup_putF, if_neg (by decide +kernel), lookup_putF, if_neg (by decide +kernel), lookup_putF, if_neg (by decide +kernel), lookup_putF, if_pos rfl]
theorem bkF_first : (bkF s t first e w tr).lookup ("_first" : Str) = some (V.str first) := by
  unfold bkF
  rw [lookup_putF, if_neg (by decide +kernel), lookup_putF, if_neg (by decide +kernel), lookup_putF, if_neg (by decide +kernel), lookup_putF, if_pos rfl]
theorem bkF_effects : (bkF s t first e w tr).lookup ("_effects" : Str) = some (V.ref e) := by
  unfold bkF
  rw [lookup_putF, if_neg (by decide +kernel), lookup_putF, if_neg (by decide +kernel), lookup_putF, if_pos rfl]
theorem bkF_worths : (bkF s t first e w tr).lookup ("_worths" : Str) = some (V.ref w) := by
  unfold bkF
  rw [lookup_putF, if_neg (by decide +kernel), lookup_putF, if_pos rfl]
theorem bkF_no {m : Str} (h : m ∉ (["_traits", "_worths", "_effects", "_first", "_sorts", "_states"] : List Str)) : (bkF s t first e w tr).lookup m = none := by
  simp only [List.mem_cons, List.not_mem_nil, or_false, not_or] at h
  obtain ⟨h1, h2, h3, h4, h5, h6⟩ := h
  unfold bkF
  rw [lookup_putF, if_neg h1, lookup_putF, if_neg h2, lookup_putF, if_neg h3, lookup_putF, if_neg h4, lookup_putF, if_neg h5, lookup_putF, if_neg h6]; rfl
end
theorem putF_len (f : Str) (v : V) : ∀ fs : List (Str × V), (putF f v fs).length ≤ fs.length + 1
  | [] => Nat.le_refl _
  | (g, u) :: fs => by
    show (if g = f then (g, v) :: fs else (g, u) :: putF f v fs).length ≤ _
    split
    · simp
    · have := putF_len f v fs; simp; omega
theorem But.seqI {K : PySem.W.Frag} {d C dx : Addr} {fs : List (Str × V)} {H H' : Hp} {a : Addr} {xs : List V} (e : But d H H') (hd : H d = some (.ins C dx fs)) (h : SqL K H a xs) : SqL K H' a xs := by
  rcases h with (h | ⟨o, h⟩) | h
  · exact .inl (.inl (e _ _ (ne_of h hd (fun z => nomatch z)) h))
  · exact .inl (.inr ⟨o, e _ _ (ne_of h hd (fun z => nomatch z)) h⟩)
  · exact .inr h
theorem But.rowsI {d C dx : Addr} {fs : List (Str × V)} {H H' : Hp} {a : Addr} {rows : List (K3 × Eff)} (e : But d H H') (hd : H d = some (.ins C dx fs)) (h : RowsAt H a rows) : RowsAt H' a rows := by
  obtain ⟨kvs, h1, h2⟩ := h
  exact ⟨kvs, e _ _ (ne_of h1 hd (fun z => nomatch z)) h1, Paired.mapP h2 fun x y ⟨a1, c, a2, a3⟩ => ⟨a1, c, a2, e _ _ (ne_of a3 hd (fun z => nomatch z)) a3⟩⟩
theorem But.worthsI {d C dx : Addr} {fs : List (Str × V)} {H H' : Hp} {a : Addr} {ws : List (Str × Int)} (e : But d H H') (hd : H d = some (.ins C dx fs)) (h : WorthsAt H a ws) : WorthsAt H' a ws := e _ _ (ne_of h hd (fun z => nomatch z)) h
/-- what a store into an instance leaves -/
theorem but_put {d C dx : Addr} {fs : List (Str × V)} {H : Hp} : But d H (upd H d (.ins C dx fs)) := But.upd
structure BookC (K : PySem.W.Frag) (mg : Str → Option Value) (C : Addr) : Prop where
  cl : Cls K C
  n1 : NoAttr K C "_states"
  n2 : NoAttr K C "_sorts"
  n3 : NoAttr K C "_first"
  n4 : NoAttr K C "_effects"
  n5 : NoAttr K C "_worths"
  n6 : NoAttr K C "_traits"
  mgC : mg "Book" = some (.ref C)
def GoodBk (B : Bk) : Prop := Wds 4 B.states ∧ Wds 3 B.sorts ∧ B.first ∈ B.states ∧ GoodRows B.states B.sorts B.rows ∧ GoodWorths B.states B.worths
def toldB (B : Bk) : Bk := { B with rows := told B.rows, worths := toldW B.worths }
def spBInit (K : PySem.W.Frag) (C : Addr) : Sp := fun vs H Q _ => ∃ (p dx ls lt d : Addr) (x : V) (B : Bk), vs = [.ref p, .ref ls, .ref lt, .str B.first, .ref d, x] ∧ H p = some (.ins C dx []) ∧ SqL K H ls (B.states.map V.str) ∧ SqL K H lt (B.sorts.map V.str) ∧ RowsAt H d B.rows ∧
  ((x = .non ∧ B.worths = []) ∨ ∃ c, x = .ref c ∧ WorthsAt H c B.worths) ∧ GoodBk B ∧ ∀ H', (∀ b o, b ≠ p → H b = some o → H' b = some o) → BookAt C H' p (toldB B) → Q .non H'
section
variable {P : Program} {w : World} {K : PySem.W.Frag} {mg : Str → Option Value} {base : Heap}
theorem scBInit : FnScope ["self", "states", "sorts", "first", "rows", "worths"] ["self", "states", "sorts", "first", "rows", "worths"] (defScope sBInit) := ⟨rfl, rfl, rfl, by decide +kernel, rfl, by decide +kernel, by decide +kernel⟩
theorem ok_bInit {f C fL fE fW : Addr} {fd fdL fdE fdW : FuncData} (F : FunD K "__init__" "Book.__init__" (defArgs sBInit) (defBody sBInit) (defScope sBInit) [] [("worths", .non)] f fd) (T : Txt K mg) (BC : BookC K mg C)
    (DL : Def K mg "is_word_list" sIsWordList ["thing", "most"] fL fdL) (GL : FnOk P w K mg base CX0 2 fL fdL ["thing", "most"] (spWordList K))
    (DE : Def K mg "told_effects" sToldEffects ["rows", "states", "sorts"] fE fdE) (GE : FnOk P w K mg base CX0 5 fE fdE ["rows", "states", "sorts"] (spToldEffects K))
    (DW : Def K mg "told_worths" sToldWorths ["worths", "states"] fW fdW) (GW : FnOk P w K mg base CX0 3 fW fdW ["worths", "states"] (spToldWorths K)) :
    FnOk P w K mg base CX0 6 f fd ["self", "states", "sorts", "first", "rows", "worths"] (spBInit K C) := by
  refine F.ok scBInit (fun vs H Q E h => ?_) (fun cdv A outer s H vs Q E hr h => ?_)
  · obtain ⟨p, dx, ls, lt, d, x, B, rfl, _⟩ := h
    rfl
  · obtain ⟨p, dx, ls, lt, d, x, ⟨states, sorts, first, rows, worths⟩, rfl, hp, hs, ht, hd, hx, ⟨g1, g2, g3, g4, g5⟩, k⟩ := h
    refine ⟨_, PSs.nox (pss_cons (ps_if (pt_not (pt_val (pe_call GL (hr.mono (by decide)) (by rfl) DL.m DL.F.kp DL.b .nil pass0 (pa_cons (pv 1) (pa_cons pe_int pa_nil))))) (pss_one ps_never) pss_nil)
      (pss_cons (ps_if (pt_not (pt_val (pe_call GL (hr.mono (by decide)) (by rfl) DL.m DL.F.kp DL.b .nil pass0 (pa_cons (pv 2) (pa_cons pe_int pa_nil))))) (pss_one ps_never) pss_nil)
      (pss_cons (ps_if (pt_cmpR op_notIn_seq (pv 3) (pv 1) (by rfl)) (pss_one ps_never) pss_nil)
      (pss_cons (ps_fld (pv 0) (pe_callTy call_list_of (by rfl) T.list (by decide +kernel) (pa_cons (pv 1) pa_nil)) rfl)
      (pss_cons (ps_fld (pv 0) (pe_callTy call_list_of (by rfl) T.list (by decide +kernel) (pa_cons (pv 2) pa_nil)) rfl)
      (pss_cons (ps_fld (pv 0) (pv 3) rfl)
      (pss_cons (ps_fld (pv 0) (pe_call GE hr (by rfl) DE.m DE.F.kp DE.b .nil pass0 (pa_cons (pv 4) (pa_cons (pv 1) (pa_cons (pv 2) pa_nil)))) rfl)
      (pss_cons (ps_fld (pv 0) (pe_call GW (hr.mono (by decide)) (by rfl) DW.m DW.F.kp DW.b .nil pass0 (pa_cons (pv 5) (pa_cons (pv 1) pa_nil))) rfl)
      (pss_one (ps_fld (pv 0) (pe_tup (pa_cons (pe_callB cr_sortedS (by rfl) T.sorted (by decide +kernel) (pa_cons (pv 1) pa_nil)) (pa_cons (pe_callB cr_sortedS (by rfl) T.sorted (by decide +kernel) (pa_cons (pv 2) pa_nil))
        (pa_cons (pv 3) (pa_cons (pe_fld (pv 0) rfl) (pa_cons (pe_fld (pv 0) rfl) pa_nil)))))) rfl)))))))))), ?_⟩
    refine ⟨_, rfl, ls, states, 4, rfl, hs, by decide, g1, fun H1 s1 => ⟨_, rfl, ?_⟩⟩
    refine ⟨_, rfl, lt, sorts, 3, rfl, s1.seq ht, by decide, g2, fun H2 s2 => ⟨_, rfl, ?_⟩⟩
    have s02 := s1.trans s2
    have hp2 := s02 _ _ hp
    refine ⟨_, rfl, _, rfl, ls, _, rfl, .inl (s02.seq hs), rfl, flat_strs _, _, rfl, ?_⟩
    have hin : inV (V.str first) (states.map V.str) = true := (inV_str _ _).trans (decide_eq_true g3)
    rw [if_pos rfl]
    refine iteEF (by rw [hin]; rfl) ?_
    -- self._states = list(states)
    refine ⟨_, rfl, ls, _, rfl, .inl (s02.seq hs), fun as has => ⟨_, rfl, p, C, dx, [], rfl, same_new has _ _ hp2, BC.cl, BC.n1, by show 0 < 1000; decide, ?_⟩⟩
    have b3 : But p H (upd (upd H2 as (.lst (states.map V.str))) p (.ins C dx (putF "_states" (.ref as) []))) := (But.of (s02.trans (same_new has))).trans but_put
    have has3 : (upd (upd H2 as (.lst (states.map V.str))) p (.ins C dx (putF "_states" (.ref as) []))) as = some (.lst (states.map V.str)) := by
      rw [upd_ne (ne_of_none hp2 has).symm, upd_same]
    generalize hH3 : upd (upd H2 as (.lst (states.map V.str))) p (.ins C dx (putF "_states" (.ref as) [])) = H3 at b3 has3 ⊢
    have hp3 : H3 p = some (.ins C dx (putF "_states" (.ref as) [])) := by rw [← hH3]; exact upd_same
    -- self._sorts = list(sorts)
    refine ⟨_, rfl, lt, _, rfl, .inl (b3.seqI hp ht), fun at' hat => ⟨_, rfl, p, C, dx, _, rfl, same_new hat _ _ hp3, BC.cl, BC.n2, by show 1 < 1000; decide, ?_⟩⟩
    have b4 : But p H3 (upd (upd H3 at' (.lst (sorts.map V.str))) p (.ins C dx (putF "_sorts" (.ref at') (putF "_states" (.ref as) [])))) := (But.of (same_new hat)).trans but_put
    have hat4 : (upd (upd H3 at' (.lst (sorts.map V.str))) p (.ins C dx (putF "_sorts" (.ref at') (putF "_states" (.ref as) [])))) at' = some (.lst (sorts.map V.str)) := by
      rw [upd_ne (ne_of_none hp3 hat).symm, upd_same]
    generalize hH4 : upd (upd H3 at' (.lst (sorts.map V.str))) p (.ins C dx (putF "_sorts" (.ref at') (putF "_states" (.ref as) []))) = H4 at b4 hat4 ⊢
    have hp4 : H4 p = some (.ins C dx (putF "_sorts" (.ref at') (putF "_states" (.ref as) []))) := by rw [← hH4]; exact upd_same
    -- self._first = first
    refine ⟨_, rfl, _, rfl, p, C, dx, _, rfl, hp4, BC.cl, BC.n3, Nat.lt_of_le_of_lt (Nat.le_trans (putF_len _ _ _) (Nat.succ_le_succ (putF_len _ _ _))) (by decide), ?_⟩
    have b5 : But p H4 (upd H4 p (.ins C dx (putF "_first" (.str first) (putF "_sorts" (.ref at') (putF "_states" (.ref as) []))))) := but_put
    generalize hH5 : upd H4 p (.ins C dx (putF "_first" (.str first) (putF "_sorts" (.ref at') (putF "_states" (.ref as) [])))) = H5 at b5 ⊢
    have hp5 : H5 p = some (.ins C dx (putF "_first" (.str first) (putF "_sorts" (.ref at') (putF "_states" (.ref as) [])))) := by rw [← hH5]; exact upd_same
    have b05 := (b3.trans b4).trans b5
    -- self._effects = told_effects(rows, states, sorts)
    refine ⟨_, rfl, _, rfl, _, rfl, d, ls, lt, rows, states, sorts, rfl, b05.rowsI hp hd, b05.seqI hp hs, b05.seqI hp ht, g4, g1.2.2.2, fun ae H6 s6 hae hre => ⟨_, rfl, p, C, dx, _, rfl, s6 _ _ hp5, BC.cl, BC.n4, ?_, ?_⟩⟩
    · exact Nat.lt_of_le_of_lt (Nat.le_trans (putF_len _ _ _) (Nat.succ_le_succ (Nat.le_trans (putF_len _ _ _) (Nat.succ_le_succ (putF_len _ _ _))))) (by decide)
    have hp6 := s6 _ _ hp5
    have b7 : But p H6 (upd H6 p (.ins C dx (putF "_effects" (.ref ae) (putF "_first" (.str first) (putF "_sorts" (.ref at') (putF "_states" (.ref as) [])))))) := but_put
    generalize hH7 : upd H6 p (.ins C dx (putF "_effects" (.ref ae) (putF "_first" (.str first) (putF "_sorts" (.ref at') (putF "_states" (.ref as) []))))) = H7 at b7 ⊢
    have hp7 : H7 p = some (.ins C dx (putF "_effects" (.ref ae) (putF "_first" (.str first) (putF "_sorts" (.ref at') (putF "_states" (.ref as) []))))) := by rw [← hH7]; exact upd_same
    have b07 := (b05.trans (But.of s6)).trans b7
    have hre7 := b7.rowsI hp6 hre
    -- self._worths = told_worths(worths, states)
    have hx7 : (x = .non ∧ worths = []) ∨ ∃ c, x = .ref c ∧ WorthsAt H7 c worths := hx.imp id fun ⟨c, e, h⟩ => ⟨c, e, b07.worthsI hp h⟩
    refine ⟨_, rfl, _, rfl, x, ls, worths, states, rfl, b07.seqI hp hs, g5, hx7, fun aw H8 s8 haw hrw => ⟨_, rfl, p, C, dx, _, rfl, s8 _ _ hp7, BC.cl, BC.n5, ?_, ?_⟩⟩
    · exact Nat.lt_of_le_of_lt (Nat.le_trans (putF_len _ _ _) (Nat.succ_le_succ (Nat.le_trans (putF_len _ _ _) (Nat.succ_le_succ (Nat.le_trans (putF_len _ _ _) (Nat.succ_le_succ (putF_len _ _ _))))))) (by decide)
    have hp8 := s8 _ _ hp7
    have b9 : But p H8 (upd H8 p (.ins C dx (putF "_worths" (.ref aw) (putF "_effects" (.ref ae) (putF "_first" (.str first) (putF "_sorts" (.ref at') (putF "_states" (.ref as) []))))))) := but_put
    generalize hH9 : upd H8 p (.ins C dx (putF "_worths" (.ref aw) (putF "_effects" (.ref ae) (putF "_first" (.str first) (putF "_sorts" (.ref at') (putF "_states" (.ref as) [])))))) = H9 at b9 ⊢
    have hp9 : H9 p = some (.ins C dx (putF "_worths" (.ref aw) (putF "_effects" (.ref ae) (putF "_first" (.str first) (putF "_sorts" (.ref at') (putF "_states" (.ref as) [])))))) := by rw [← hH9]; exact upd_same
    have b09 := (b07.trans (But.of s8)).trans b9
    -- self._traits
    refine ⟨_, rfl, ls, states, rfl, b09.seqI hp hs, ?_, fun ys1 q1 pm1 so1 hq1 => ?_⟩
    · exact Nat.lt_of_le_of_lt g1.2.1 (by decide)
    have s10 := same_new (o := .lst (ys1.map V.str)) hq1
    refine ⟨_, rfl, lt, sorts, rfl, s10.seq (b09.seqI hp ht), ?_, fun ys2 q2 pm2 so2 hq2 => ?_⟩
    · exact Nat.lt_of_le_of_lt g2.2.1 (by decide)
    have s11 := s10.trans (same_new (o := .lst (ys2.map V.str)) hq2)
    have hp11 := s11 _ _ hp9
    have l5 : (putF "_worths" (.ref aw) (putF "_effects" (.ref ae) (putF "_first" (.str first) (putF "_sorts" (.ref at') (putF "_states" (.ref as) []))))).length ≤ 5 :=
      Nat.le_trans (putF_len _ _ _) (Nat.succ_le_succ (Nat.le_trans (putF_len _ _ _) (Nat.succ_le_succ (Nat.le_trans (putF_len _ _ _) (Nat.succ_le_succ (Nat.le_trans (putF_len _ _ _) (Nat.succ_le_succ (putF_len _ _ _))))))))
    refine ⟨_, rfl, _, rfl, p, C, dx, _, .ref ae, rfl, hp11, BC.cl, BC.n4, ?_, _, rfl, p, C, dx, _, .ref aw, rfl, hp11, BC.cl, BC.n5, ?_, by show 5 ≤ sizeLine; decide, fun tr htr => ?_⟩
    · rw [lookup_putF, if_neg (by decide +kernel), lookup_putF, if_pos rfl]
    · rw [lookup_putF, if_pos rfl]
    have s12 := s11.trans (same_new (o := .tup [.ref q1, .ref q2, .str first, .ref ae, .ref aw]) htr)
    have hp12 := s12 _ _ hp9
    refine ⟨_, rfl, p, C, dx, _, rfl, hp12, BC.cl, BC.n6, Nat.lt_of_le_of_lt l5 (by decide), ?_⟩
    refine k _ (fun b o n e => ?_) ⟨dx, as, at', ae, aw, tr, upd_same, ?_, ?_, ?_, ?_⟩
    · exact ((b09.trans (But.of s12)).trans but_put) b o n e
    · have := (((((b4.trans b5).trans (But.of s6)).trans b7).trans (But.of s8)).trans b9).trans (But.of s12) |>.trans (but_put (d := p) (C := C) (dx := dx) (fs := putF "_traits" (.ref tr) (putF "_worths" (.ref aw) (putF "_effects" (.ref ae) (putF "_first" (.str first) (putF "_sorts" (.ref at') (putF "_states" (.ref as) [])))))))
      exact this _ _ (ne_of has3 hp3 (fun z => nomatch z)) has3
    · have := ((((b5.trans (But.of s6)).trans b7).trans (But.of s8)).trans b9).trans (But.of s12) |>.trans (but_put (d := p) (C := C) (dx := dx) (fs := putF "_traits" (.ref tr) (putF "_worths" (.ref aw) (putF "_effects" (.ref ae) (putF "_first" (.str first) (putF "_sorts" (.ref at') (putF "_states" (.ref as) [])))))))
      exact this _ _ (ne_of hat4 hp4 (fun z => nomatch z)) hat4
    · have := ((But.of (d := p) s8).trans b9).trans (But.of s12) |>.trans (but_put (d := p) (C := C) (dx := dx) (fs := putF "_traits" (.ref tr) (putF "_worths" (.ref aw) (putF "_effects" (.ref ae) (putF "_first" (.str first) (putF "_sorts" (.ref at') (putF "_states" (.ref as) [])))))))
      exact this.rowsI hp7 hre7
    · have := (b9.trans (But.of s12)).trans (but_put (d := p) (C := C) (dx := dx) (fs := putF "_traits" (.ref tr) (putF "_worths" (.ref aw) (putF "_effects" (.ref ae) (putF "_first" (.str first) (putF "_sorts" (.ref at') (putF "_states" (.ref as) [])))))))
      exact this.worthsI hp8 hrw
end
end HN

namespace HN
open PySem L2
/-! ### what a book tells -/
def spBSorts (C : Addr) : Sp := fun vs H Q _ => ∃ (p : Addr) (B : Bk), vs = [.ref p] ∧ BookAt C H p B ∧ ∀ l, H l = none → Q (.ref l) (upd H l (.lst (B.sorts.map V.str)))
def spBFirst (C : Addr) : Sp := fun vs H Q _ => ∃ (p : Addr) (B : Bk), vs = [.ref p] ∧ BookAt C H p B ∧ Q (.str B.first) H
def spBWorth (C : Addr) : Sp := fun vs H Q _ => ∃ (p : Addr) (z : Str) (B : Bk), vs = [.ref p, .str z] ∧ BookAt C H p B ∧ z ∈ B.states ∧ Q (.int (wOf B.worths z)) H
def effOf (rows : List (K3 × Eff)) (k : K3) : Eff := (effAt rows k).getD (idle k.1)
def spBEffect (C : Addr) : Sp := fun vs H Q _ => ∃ (p : Addr) (k : K3) (B : Bk), vs = [.ref p, .str k.1, .str k.2.1, .str k.2.2] ∧ BookAt C H p B ∧ GoodKey B.states B.sorts k ∧ ∀ a H', Same H H' → H' a = some (.tup (effV (effOf B.rows k))) → Q (.ref a) H'
section
variable {P : Program} {w : World} {K : PySem.W.Frag} {mg : Str → Option Value} {base : Heap}
theorem scBSorts : FnScope ["self"] ["self"] (defScope sBSorts) := ⟨rfl, rfl, rfl, by decide +kernel, rfl, by decide +kernel, by decide +kernel⟩
theorem ok_bSorts {f C : Addr} {fd : FuncData} (F : Fun K "sorts" "Book.sorts" sBSorts f fd) (T : Txt K mg) (BC : BookC K mg C) : FnOk P w K mg base CX0 1 f fd ["self"] (spBSorts C) := by
  refine F.ok scBSorts (fun vs H Q E h => ?_) (fun cdv A outer s H vs Q E hr h => ?_)
  · obtain ⟨p, B, rfl, _⟩ := h
    rfl
  · obtain ⟨p, B, rfl, ⟨dx, ls, lt, e, w', tr, hp, h1, h2, h3, h4⟩, k⟩ := h
    refine ⟨_, pss_one (ps_ret (pe_callTy call_list_of (by rfl) T.list (by decide +kernel) (pa_cons (pe_fld (pv 0) rfl) pa_nil))), ?_⟩
    exact ⟨_, rfl, p, C, dx, _, .ref lt, rfl, hp, BC.cl, BC.n2, bkF_sorts .., lt, _, rfl, .inl (SqL.of h2), fun l hl => k l hl⟩
theorem scBFirst : FnScope ["self"] ["self"] (defScope sBFirst) := ⟨rfl, rfl, rfl, by decide +kernel, rfl, by decide +kernel, by decide +kernel⟩
theorem ok_bFirst {f C : Addr} {fd : FuncData} (F : Fun K "first" "Book.first" sBFirst f fd) (BC : BookC K mg C) : FnOk P w K mg base CX0 1 f fd ["self"] (spBFirst C) := by
  refine F.ok scBFirst (fun vs H Q E h => ?_) (fun cdv A outer s H vs Q E hr h => ?_)
  · obtain ⟨p, B, rfl, _⟩ := h
    rfl
  · obtain ⟨p, B, rfl, ⟨dx, ls, lt, e, w', tr, hp, h1, h2, h3, h4⟩, k⟩ := h
    refine ⟨_, pss_one (ps_ret (pe_fld (pv 0) rfl)), ?_⟩
    exact ⟨_, rfl, p, C, dx, _, .str B.first, rfl, hp, BC.cl, BC.n3, bkF_first .., k⟩
theorem scBWorth : FnScope ["self", "state"] ["self", "state"] (defScope sBWorth) := ⟨rfl, rfl, rfl, by decide +kernel, rfl, by decide +kernel, by decide +kernel⟩
theorem ok_bWorth {f C : Addr} {fd : FuncData} (F : Fun K "worth" "Book.worth" sBWorth f fd) (BC : BookC K mg C) : FnOk P w K mg base CX0 1 f fd ["self", "state"] (spBWorth C) := by
  refine F.ok scBWorth (fun vs H Q E h => ?_) (fun cdv A outer s H vs Q E hr h => ?_)
  · obtain ⟨p, z, B, rfl, _⟩ := h
    rfl
  · obtain ⟨p, z, B, rfl, ⟨dx, ls, lt, e, w', tr, hp, h1, h2, h3, h4⟩, hz, k⟩ := h
    have hu := hu_of hr
    refine ⟨_, pss_cons (ps_if (pt_cmpR op_notIn_seq (pv 1) (pe_fld (pv 0) rfl) (by rfl)) (pss_one ps_never) pss_nil)
      (pss_one (ps_ret (pe_dget2 hu (pe_fld (pv 0) rfl) (pv 1) pe_int ⟨rfl, rfl, rfl, rfl⟩))), ?_⟩
    have hin : inV (V.str z) (B.states.map V.str) = true := (inV_str _ _).trans (decide_eq_true hz)
    refine ⟨_, rfl, _, rfl, p, C, dx, _, .ref ls, rfl, hp, BC.cl, BC.n1, bkF_states .., ls, _, rfl, .inl (SqL.of h1), rfl, flat_strs _, _, rfl, ?_⟩
    rw [if_pos rfl]
    refine iteEF (by rw [hin]; rfl) ?_
    refine ⟨_, rfl, p, C, dx, _, .ref w', rfl, hp, BC.cl, BC.n5, bkF_worths .., w', rfl, .inl ⟨_, .inl h4⟩, _, rfl, _, DGet.k (k := Sum.inr z) h4, ?_⟩
    rw [valV_wK]
    unfold wOf at k
    cases hw : wAt B.worths z with
    | none => rw [hw] at k; exact k
    | some n => rw [hw] at k; exact k
theorem scBEffect : FnScope ["self", "state", "sort", "age", "key"] ["self", "state", "sort", "age"] (defScope sBEffect) := ⟨rfl, rfl, rfl, by decide +kernel, rfl, by decide +kernel, by decide +kernel⟩
theorem ok_bEffect {f C fK fI : Addr} {fd fdK fdI : FuncData} (F : Fun K "effect" "Book.effect" sBEffect f fd) (BC : BookC K mg C) (DK : Def K mg "is_key" sIsKey ["thing", "states", "sorts"] fK fdK) (GK : FnOk P w K mg base CX0 2 fK fdK ["thing", "states", "sorts"] (spIsKey K))
    (DI : Def K mg "idle_effect" sIdle ["state"] fI fdI) (GI : FnOk P w K mg base CX0 1 fI fdI ["state"] spIdle) : FnOk P w K mg base CX0 3 f fd ["self", "state", "sort", "age"] (spBEffect C) := by
  refine F.ok scBEffect (fun vs H Q E h => ?_) (fun cdv A outer s H vs Q E hr h => ?_)
  · obtain ⟨p, kk, B, rfl, _⟩ := h
    rfl
  · obtain ⟨p, kk, B, rfl, hB, hg, k⟩ := h
    have hu := hu_of hr
    refine ⟨_, pss_cons (ps_set (i := 4) scBEffect.nd rfl (Or.inl rfl) (pe_tup (pa_cons (pv 1) (pa_cons (pv 2) (pa_cons (pv 3) pa_nil)))))
      (pss_cons (ps_if (pt_not (pt_val (pe_call GK hr (by rfl) DK.m DK.F.kp DK.b .nil pass0 (pa_cons (pv 4) (pa_cons (pe_fld (pv 0) rfl) (pa_cons (pe_fld (pv 0) rfl) pa_nil)))))) (pss_one ps_never) pss_nil)
      (pss_one (ps_ret (pe_dget2 hu (pe_fld (pv 0) rfl) (pv 4) (pe_call GI (hr.mono (by decide)) (by rfl) DI.m DI.F.kp DI.b .nil pass0 (pa_cons (pv 1) pa_nil)) ⟨rfl, rfl, rfl, rfl⟩)))), ?_⟩
    refine ⟨_, rfl, _, rfl, _, rfl, by show 3 ≤ sizeLine; decide, fun b hb => ?_⟩
    have s1 := same_new (o := .tup (v3 kk)) hb
    obtain ⟨dx, ls, lt, e, w', tr, hp, h1, h2, h3, h4⟩ := hB.same s1
    refine ⟨_, rfl, _, rfl, p, C, dx, _, .ref ls, rfl, hp, BC.cl, BC.n1, bkF_states .., _, rfl, p, C, dx, _, .ref lt, rfl, hp, BC.cl, BC.n2, bkF_sorts .., b, ls, lt, kk, B.states, B.sorts, rfl, upd_same, SqL.of h1, SqL.of h2, hg, fun H2 s2 => ⟨_, rfl, ?_⟩⟩
    have hb2 := s2 _ _ (upd_same (H := H) (a := b) (o := .tup (v3 kk)))
    obtain ⟨kvs, hd, rk⟩ := h3.same s2
    refine ⟨_, rfl, p, C, dx, _, .ref e, rfl, s2 _ _ hp, BC.cl, BC.n4, bkF_effects .., e, rfl, .inr ⟨_, .inl hd⟩, _, rfl, _, rfl, kk.1, rfl, fun q hq => ?_⟩
    have s3 := same_new (o := .tup (effV (idle kk.1))) hq
    refine ⟨_, DGet.t (k := k3 kk) (s3 _ _ hd) (show _ = some (HO.tup ((k3 kk).map kV)) from s3 _ _ hb2), ?_⟩
    have s03 := (s1.trans s2).trans s3
    unfold effOf at k
    have hv := RowsK.val (k := kk) rk
    cases he : effAt B.rows kk with
    | none =>
      rw [he] at k
      rw [hv.2 he]
      exact k q _ s03 upd_same
    | some ef =>
      rw [he] at k
      obtain ⟨a, va, ha⟩ := hv.1 ef he
      rw [va]
      exact k a _ s03 (s3 _ _ ha)
end
end HN

namespace HN
open PySem L2
abbrev sVInit : Stmt := inClass sDevice 0
abbrev sVTake : Stmt := inClass sDevice 1
abbrev sVFollow : Stmt := inClass sDevice 2
abbrev sVCell : Stmt := inClass sDevice 3
abbrev sVRight : Stmt := inClass sDevice 4
abbrev sVState : Stmt := inClass sDevice 5
abbrev sVHeld : Stmt := inClass sDevice 6
abbrev sVMet : Stmt := inClass sDevice 7
abbrev sVBadge : Stmt := inClass sDevice 8
abbrev sVError : Stmt := inClass sDevice 9
abbrev sVLetters : Stmt := inClass sDevice 10
/-! ### devices in plain words -/
def hv : Option Int → V
  | none => .non
  | some n => .int n
def ageOf (n : Int) (held : Option Int) : Str := match held with
  | none => "newer"
  | some h => if h < n then "newer" else if n = h then "same" else "elder"
abbrev Cell := Str × Option Int
def cellV (c : Cell) : List V := [.str c.1, hv c.2]
abbrev Letter := Str × Str × Int
def letV (a : Letter) : List V := [.str a.1, .str a.2.1, .int a.2.2]
structure Past where
  letter : Letter
  before : Option Cell
  badge : Int
structure Dv where
  cells : List (Str × Cell)
  badge : Int
  past : List Past
  back : List Letter
def cAt (cells : List (Str × Cell)) (k : Str) : Option Cell := (cells.find? fun p => p.1 = k).map (·.2)
def cPut (cells : List (Str × Cell)) (k : Str) (c : Cell) : List (Str × Cell) := if (cells.any fun p => decide (p.1 = k)) = true then cells.map (fun p => if p.1 = k then (p.1, c) else p) else cells ++ [(k, c)]
def rightOf (B : Bk) (cells : List (Str × Cell)) : Int := (cells.map fun p => wOf B.worths p.2.1 - wOf B.worths B.first).sum
def effAtLetter (B : Bk) (D : Dv) (a : Letter) : Eff := let c := (cAt D.cells a.1).getD (B.first, none); effOf B.rows (c.1, a.2.1, ageOf a.2.2 c.2)
def stepD (B : Bk) (D : Dv) (a : Letter) : Dv :=
  let c := (cAt D.cells a.1).getD (B.first, none)
  let e := effAtLetter B D a
  let cells := cPut D.cells a.1 (e.nx, if e.hold then some a.2.2 else c.2)
  { cells := cells, badge := match e.step with | none => rightOf B cells | some i => D.badge + i, past := D.past ++ [⟨a, cAt D.cells a.1, D.badge⟩], back := D.back }
/-- the cells' dict at c -/
def CellK (H : Hp) : List (Key × V) → List (Str × Cell) → Prop := Paired fun p q => p.1 = Sum.inr q.1 ∧ ∃ a, p.2 = .ref a ∧ H a = some (.tup (cellV q.2))
def CellsAt (H : Hp) (c : Addr) (cells : List (Str × Cell)) : Prop := ∃ kvs, H c = some (.dK kvs) ∧ CellK H kvs cells
theorem CellK.same {H H' : Hp} (s : ∀ a xs, H a = some (.tup xs) → H' a = some (.tup xs)) {kvs : List (Key × V)} {cells : List (Str × Cell)} (r : CellK H kvs cells) : CellK H' kvs cells := Paired.mapP r fun p q ⟨h1, a, h2, h3⟩ => ⟨h1, a, h2, s _ _ h3⟩
theorem CellK.len {H : Hp} {kvs : List (Key × V)} {cells : List (Str × Cell)} (r : CellK H kvs cells) : kvs.length = cells.length := Paired.length r
theorem cAt_cons (p : Str × Cell) (cells : List (Str × Cell)) (k : Str) : cAt (p :: cells) k = if p.1 = k then some p.2 else cAt cells k := by
  unfold cAt
  rw [List.find?_cons]
  by_cases h : p.1 = k
  · rw [decide_eq_true h, if_pos h]; rfl
  · rw [decide_eq_false h, if_neg h]
theorem CellK.val {H : Hp} {k : Str} : ∀ {kvs : List (Key × V)} {cells : List (Str × Cell)}, CellK H kvs cells → (∀ e, cAt cells k = some e → ∃ a, valV kvs (Sum.inr k) = some (.ref a) ∧ H a = some (.tup (cellV e))) ∧ (cAt cells k = none → valV kvs (Sum.inr k) = none)
  | _, _, .nil => ⟨fun e h => (nomatch h), fun _ => rfl⟩
  | _, _, .cons (a := p) (b := q) h t => by
    have ih := CellK.val (k := k) t
    rw [cAt_cons, valV_cons]
    by_cases c : q.1 = k
    · have c' : p.1 = Sum.inr k := by rw [h.1, c]
      rw [if_pos c, if_pos c']
      obtain ⟨_, a, h2, h3⟩ := h
      refine ⟨fun e he => ?_, fun z => by cases z⟩
      injection he with he
      subst he
      exact ⟨a, by rw [h2], h3⟩
    · have c' : ¬ p.1 = Sum.inr k := by rw [h.1]; exact fun z => c (Sum.inr.inj z)
      rw [if_neg c, if_neg c']
      exact ih
theorem CellK.repl {H : Hp} {k : Str} {e : Cell} {a : Addr} (ha : H a = some (.tup (cellV e))) : ∀ {kvs : List (Key × V)} {cells : List (Str × Cell)}, CellK H kvs cells →
    CellK H (kvs.map fun kv => if kv.1 = (Sum.inr k : Key) then (kv.1, .ref a) else kv) (cells.map fun p => if p.1 = k then (p.1, e) else p)
  | _, _, .nil => .nil
  | _, _, .cons (a := p) (b := q) h t => by
    rw [List.map_cons, List.map_cons]
    refine .cons ?_ (CellK.repl ha t)
    by_cases c : q.1 = k
    · have c' : p.1 = (Sum.inr k : Key) := by rw [h.1, c]
      rw [if_pos c, if_pos c']
      exact ⟨h.1, a, rfl, ha⟩
    · have c' : ¬ p.1 = (Sum.inr k : Key) := by rw [h.1]; exact fun z => c (Sum.inr.inj z)
      rw [if_neg c, if_neg c']
      exact h
theorem CellK.app {H : Hp} {k : Str} {e : Cell} {a : Addr} (ha : H a = some (.tup (cellV e))) : ∀ {kvs : List (Key × V)} {cells : List (Str × Cell)}, CellK H kvs cells → CellK H (kvs ++ [(Sum.inr k, .ref a)]) (cells ++ [(k, e)])
  | _, _, .nil => .cons ⟨rfl, a, rfl, ha⟩ .nil
  | _, _, .cons h t => .cons h (CellK.app ha t)
theorem CellK.put {H : Hp} {k : Str} {e : Cell} {a : Addr} (ha : H a = some (.tup (cellV e))) {kvs : List (Key × V)} {cells : List (Str × Cell)} (r : CellK H kvs cells) : CellK H (putK kvs (Sum.inr k) (.ref a)) (cPut cells k e) := by
  have hany : (kvs.any fun kv => decide (kv.1 = (Sum.inr k : Key))) = (cells.any fun p => decide (p.1 = k)) := by
    clear ha
    induction r with
    | nil => rfl
    | cons h t ih =>
      rw [List.any_cons, List.any_cons, ih, h.1]
      congr 1
      rw [decide_eq_decide]
      exact ⟨fun z => Sum.inr.inj z, fun z => by rw [z]⟩
  unfold putK cPut
  rw [hany]
  split
  · exact r.repl ha
  · exact r.app ha
/-- a device at v: its dict of cells at c, its list of letters taken at l, of those taken back at tb, its book at bk -/
def dvF (bk c : Addr) (badge : Int) (l tb : Addr) : List (Str × V) := [("_book", .ref bk), ("_cells", .ref c), ("_badge", .int badge), ("_past", .ref l), ("_taken_back", .ref tb)]
def PastIs (H : Hp) (x : V) (q : Past) : Prop := ∃ a t bv, x = .ref a ∧ H a = some (.tup [.ref t, bv, .int q.badge]) ∧ H t = some (.tup (letV q.letter)) ∧ (match q.before with | none => bv = .non | some ce => ∃ ca, bv = .ref ca ∧ H ca = some (.tup (cellV ce)))
def PastAt (H : Hp) (l : Addr) (past : List Past) : Prop := ∃ xs, H l = some (.lst xs) ∧ Paired (PastIs H) xs past
def LetIs (H : Hp) (x : V) (q : Letter) : Prop := ∃ t, x = .ref t ∧ H t = some (.tup (letV q))
def BackAt (H : Hp) (l : Addr) (back : List Letter) : Prop := ∃ xs, H l = some (.lst xs) ∧ Paired (LetIs H) xs back
theorem PastIs.same {H H' : Hp} (s : ∀ a xs, H a = some (.tup xs) → H' a = some (.tup xs)) {x : V} {q : Past} (h : PastIs H x q) : PastIs H' x q := by
  obtain ⟨a, t, bv, h1, h2, h3, h4⟩ := h
  refine ⟨a, t, bv, h1, s _ _ h2, s _ _ h3, ?_⟩
  cases hb : q.before with
  | none => rw [hb] at h4; exact h4
  | some ce =>
    rw [hb] at h4
    obtain ⟨ca, h5, h6⟩ := h4
    exact ⟨ca, h5, s _ _ h6⟩
structure DevAt (C : Addr) (H : Hp) (v c l tb bk : Addr) (D : Dv) : Prop where
  ob : ∃ dx, H v = some (.ins C dx (dvF bk c D.badge l tb))
  ce : CellsAt H c D.cells
  pa : PastAt H l D.past
  ba : BackAt H tb D.back
  ne : l ≠ tb
/-- what a device may write is left out of the heap H0, which stands -/
structure Under (H0 H : Hp) (v c l tb : Addr) : Prop where
  same : Same H0 H
  nv : H0 v = none
  nc : H0 c = none
  nl : H0 l = none
  nt : H0 tb = none
def GoodDv (B : Bk) (D : Dv) : Prop := (∀ p ∈ D.cells, p.2.1 ∈ B.states ∧ isWord p.1 = true) ∧ (D.cells.map (·.1)).Nodup ∧ D.cells.length ≤ D.past.length ∧ D.past.length ≤ 1000
theorem DevAt.tups {C v c l tb bk : Addr} {H H' : Hp} {D : Dv} (d : DevAt C H v c l tb bk D) (s : Same H H') : DevAt C H' v c l tb bk D := by
  obtain ⟨⟨dx, h1⟩, ⟨kvs, h2, h3⟩, ⟨xs, h4, h5⟩, ⟨ys, h6, h7⟩, ne⟩ := d
  exact ⟨⟨dx, s _ _ h1⟩, ⟨kvs, s _ _ h2, h3.same fun a xs e => s _ _ e⟩, ⟨xs, s _ _ h4, Paired.mapP h5 fun a b q => q.same fun a xs e => s _ _ e⟩, ⟨ys, s _ _ h6, Paired.mapP h7 fun a b ⟨t, q1, q2⟩ => ⟨t, q1, s _ _ q2⟩⟩, ne⟩
structure DevC (K : PySem.W.Frag) (mg : Str → Option Value) (C : Addr) : Prop where
  cl : Cls K C
  n1 : NoAttr K C "_book"
  n2 : NoAttr K C "_cells"
  n3 : NoAttr K C "_badge"
  n4 : NoAttr K C "_past"
  n5 : NoAttr K C "_taken_back"
  mgC : mg "Device" = some (.ref C)
end HN

namespace HN
open PySem L2
section
variable (bk c : Addr) (z : Int) (l tb : Addr)
theorem dvF_book : (dvF bk c z l tb).lookup ("_book" : Str) = some (V.ref bk) := rfl
theorem dvF_cells : (dvF bk c z l tb).lookup ("_cells" : Str) = some (V.ref c) := by kernel_rfl
theorem dvF_badge : (dvF bk c z l tb).lookup ("_badge" : Str) = some (V.int z) := by kernel_rfl
theorem dvF_past : (dvF bk c z l tb).lookup ("_past" : Str) = some (V.ref l) := by kernel_rfl
theorem dvF_put (y : Int) : putF "_badge" (.int y) (dvF bk c z l tb) = dvF bk c y l tb := by kernel_rfl
theorem dvF_putT (u : Addr) : putF "_taken_back" (.ref u) (dvF bk c z l tb) = dvF bk c z l u := by kernel_rfl
theorem dvF_mk : putF "_taken_back" (.ref tb) (putF "_past" (.ref l) (putF "_badge" (.int z) (putF "_cells" (.ref c) (putF "_book" (.ref bk) [])))) = dvF bk c z l tb := by kernel_rfl
theorem dvF_no {m : Str} (h : m ∉ (["_book", "_cells", "_badge", "_past", "_taken_back"] : List Str)) : (dvF bk c z l tb).lookup m = none := by
  simp only [List.mem_cons, List.not_mem_nil, or_false, not_or] at h
  obtain ⟨h1, h2, h3, h4, h5⟩ := h
  unfold dvF
  simp [List.lookup, beq_eq_false_iff_ne.mpr h1, beq_eq_false_iff_ne.mpr h2, beq_eq_false_iff_ne.mpr h3, beq_eq_false_iff_ne.mpr h4, beq_eq_false_iff_ne.mpr h5]
end
def spAgeOf : Sp := fun vs H Q _ => ∃ (n : Int) (held : Option Int), vs = [.int n, hv held] ∧ Q (.str (ageOf n held)) H
def spCheckKey : Sp := fun vs H Q _ => ∃ (z : Str), vs = [.str z] ∧ isWord z = true ∧ Q .non H
def spCheckLetter (K : PySem.W.Frag) : Sp := fun vs H Q _ => ∃ (k s : Str) (n : Int) (l : Addr) (sorts : List Str), vs = [.str k, .str s, .int n, .ref l] ∧ isWord k = true ∧ SqL K H l (sorts.map V.str) ∧ s ∈ sorts ∧ Q .non H
section
variable {P : Program} {w : World} {K : PySem.W.Frag} {mg : Str → Option Value} {base : Heap}
theorem scAgeOf : FnScope ["number", "held"] ["number", "held"] (defScope sAgeOf) := ⟨rfl, rfl, rfl, by decide +kernel, rfl, by decide +kernel, by decide +kernel⟩
theorem ok_ageOf {f : Addr} {fd : FuncData} (D : Def K mg "age_of" sAgeOf ["number", "held"] f fd) : FnOk P w K mg base CX0 1 f fd ["number", "held"] spAgeOf := by
  refine D.F.ok scAgeOf (fun vs H Q E h => ?_) (fun cdv A outer s H vs Q E hr h => ?_)
  · obtain ⟨n, held, rfl, _⟩ := h
    rfl
  · obtain ⟨n, held, rfl, k⟩ := h
    refine ⟨_, pss_cons (ps_if (PW.pt (pw_or (pt_cmp (pc_isN (pv 1))) (pw_or1 (pt_cmpR op_gt (pv 0) (pv 1) (nomark _))))) (pss_one (ps_ret pe_str)) pss_nil)
      (pss_one (ps_ret (pe_ifExp (pt_cmpR op_eq (pv 0) (pv 1) (nomark _)) pe_str pe_str))), ?_⟩
    cases held with
    | none => exact ⟨_, rfl, _, rfl, k⟩
    | some h =>
      simp only [ageOf] at k
      refine ⟨_, rfl, _, rfl, ?_⟩
      refine ⟨_, rfl, _, rfl, _, _, rfl, rfl, _, rfl, ?_⟩
      by_cases c : h < n
      · rw [if_pos c] at k
        exact iteE (decide_eq_true c) k
      · rw [if_neg c] at k
        refine iteEF (decide_eq_false c) ?_
        refine ⟨_, rfl, _, rfl, rfl, _, rfl, ?_⟩
        by_cases c2 : n = h
        · rw [if_pos c2] at k
          exact iteE (decide_eq_true (by rw [c2]; rfl)) k
        · rw [if_neg c2] at k
          exact iteEF (decide_eq_false (fun z => c2 (V.int.inj z))) k
theorem scCheckKey : FnScope ["key"] ["key"] (defScope sCheckKey) := ⟨rfl, rfl, rfl, by decide +kernel, rfl, by decide +kernel, by decide +kernel⟩
theorem ok_checkKey {f fW : Addr} {fd fdW : FuncData} (D : Def K mg "check_key" sCheckKey ["key"] f fd) (DW : Def K mg "is_word" sIsWord ["thing"] fW fdW) (GW : FnOk P w K mg base CX0 1 fW fdW ["thing"] (spIsWord K)) : FnOk P w K mg base CX0 2 f fd ["key"] spCheckKey := by
  refine D.F.ok scCheckKey (fun vs H Q E h => ?_) (fun cdv A outer s H vs Q E hr h => ?_)
  · obtain ⟨z, rfl, _⟩ := h
    rfl
  · obtain ⟨z, rfl, hz, k⟩ := h
    refine ⟨_, pss_one (ps_if (pt_not (pt_val (pe_call GW hr (by rfl) DW.m DW.F.kp DW.b .nil pass0 (pa_cons (pv 0) pa_nil)))) (pss_one ps_never) pss_nil), ?_⟩
    have lz := wd_len hz
    refine ⟨_, rfl, _, .str z, rfl, .str z, fun y e => ?_, _, rfl, ?_⟩
    · cases e; omega
    exact iteEF (show (!(isWord z)) = false by rw [hz]; rfl) k
theorem scCheckLetter : FnScope ["key", "sort", "number", "sorts"] ["key", "sort", "number", "sorts"] (defScope sCheckLetter) := ⟨rfl, rfl, rfl, by decide +kernel, rfl, by decide +kernel, by decide +kernel⟩
theorem ok_checkLetter {f fC fI : Addr} {fd fdC fdI : FuncData} (D : Def K mg "check_letter" sCheckLetter ["key", "sort", "number", "sorts"] f fd) (DC : Def K mg "check_key" sCheckKey ["key"] fC fdC) (GC : FnOk P w K mg base CX0 2 fC fdC ["key"] spCheckKey)
    (DI : Def K mg "is_int" sIsInt ["thing"] fI fdI) (GI : FnOk P w K mg base CX0 1 fI fdI ["thing"] (spIsInt K)) : FnOk P w K mg base CX0 3 f fd ["key", "sort", "number", "sorts"] (spCheckLetter K) := by
  refine D.F.ok scCheckLetter (fun vs H Q E h => ?_) (fun cdv A outer s H vs Q E hr h => ?_)
  · obtain ⟨k, s, n, l, sorts, rfl, _⟩ := h
    rfl
  · obtain ⟨kk, sk, n, l, sorts, rfl, hk, hl, hs, k⟩ := h
    refine ⟨_, pss_cons (ps_expr (pe_call GC hr (by rfl) DC.m DC.F.kp DC.b .nil pass0 (pa_cons (pv 0) pa_nil)))
      (pss_cons (ps_if (pt_cmpR op_notIn_seq (pv 1) (pv 3) (by rfl)) (pss_one ps_never) pss_nil)
      (pss_one (ps_if (pt_not (pt_val (pe_call GI (hr.mono (by decide)) (by rfl) DI.m DI.F.kp DI.b .nil pass0 (pa_cons (pv 2) pa_nil)))) (pss_one ps_never) pss_nil))), ?_⟩
    refine ⟨_, rfl, kk, rfl, hk, ?_⟩
    have hin : inV (V.str sk) (sorts.map V.str) = true := (inV_str _ _).trans (decide_eq_true hs)
    refine ⟨_, rfl, _, rfl, l, _, rfl, .inl hl, rfl, flat_strs _, _, rfl, ?_⟩
    rw [if_pos rfl]
    refine iteEF (by rw [hin]; rfl) ?_
    exact ⟨_, rfl, _, .int n, rfl, .int n, _, rfl, k⟩
/-! ### the device's own defs -/
def spVInit (C : Addr) : Sp := fun vs H Q _ => ∃ (v dx bk : Addr), vs = [.ref v, .ref bk] ∧ H v = some (.ins C dx []) ∧ ∀ c l tb H', H c = none → H l = none → H tb = none → (∀ b o, b ≠ v → H b = some o → H' b = some o) → DevAt C H' v c l tb bk ⟨[], 0, [], []⟩ → Q .non H'
theorem scVInit : FnScope ["self", "book"] ["self", "book"] (defScope sVInit) := ⟨rfl, rfl, rfl, by decide +kernel, rfl, by decide +kernel, by decide +kernel⟩
theorem ok_vInit {f C : Addr} {fd : FuncData} (F : Fun K "__init__" "Device.__init__" sVInit f fd) (DC : DevC K mg C) : FnOk P w K mg base CX0 1 f fd ["self", "book"] (spVInit C) := by
  refine F.ok scVInit (fun vs H Q E h => ?_) (fun cdv A outer s H vs Q E hr h => ?_)
  · obtain ⟨v, dx, bk, rfl, _⟩ := h
    rfl
  · obtain ⟨v, dx, bk, rfl, hv, k⟩ := h
    refine ⟨_, pss_cons (ps_fld (pv 0) (pv 1) rfl) (pss_cons (ps_fld (pv 0) pe_dnewK rfl) (pss_cons (ps_fld (pv 0) pe_int rfl) (pss_cons (ps_fld (pv 0) (pe_lst pa_nil) rfl) (pss_one (ps_fld (pv 0) (pe_lst pa_nil) rfl))))), ?_⟩
    refine ⟨_, rfl, _, rfl, v, C, dx, [], rfl, hv, DC.cl, DC.n1, by show 0 < 1000; decide, ?_⟩
    refine fun c hc => ⟨_, rfl, v, C, dx, _, rfl, same_new hc _ _ upd_same, DC.cl, DC.n2, by show 1 < 1000; decide, ?_⟩
    refine ⟨_, rfl, v, C, dx, _, rfl, upd_same, DC.cl, DC.n3, Nat.lt_of_le_of_lt (Nat.le_trans (putF_len _ _ _) (Nat.succ_le_succ (putF_len _ _ _))) (by decide), ?_⟩
    refine ⟨Nat.zero_le _, fun l hl => ⟨_, rfl, v, C, dx, _, rfl, same_new hl _ _ upd_same, DC.cl, DC.n4, Nat.lt_of_le_of_lt (Nat.le_trans (putF_len _ _ _) (Nat.succ_le_succ (Nat.le_trans (putF_len _ _ _) (Nat.succ_le_succ (putF_len _ _ _))))) (by decide), ?_⟩⟩
    refine ⟨Nat.zero_le _, fun tb htb => ⟨_, rfl, v, C, dx, _, rfl, same_new htb _ _ upd_same, DC.cl, DC.n5, Nat.lt_of_le_of_lt (Nat.le_trans (putF_len _ _ _) (Nat.succ_le_succ (Nat.le_trans (putF_len _ _ _) (Nat.succ_le_succ (Nat.le_trans (putF_len _ _ _) (Nat.succ_le_succ (putF_len _ _ _))))))) (by decide), ?_⟩⟩
    rw [dvF_mk]
    have nvc : c ≠ v := fun z => by
      rw [z, upd_same] at hc; cases hc
    have nvl : l ≠ v := fun z => by
      rw [z, upd_same] at hl; cases hl
    have nvt : tb ≠ v := fun z => by
      rw [z, upd_same] at htb; cases htb
    have hc0 : H c = none := by rw [upd_ne nvc] at hc; exact hc
    have ncl : l ≠ c := fun z => by
      rw [z, upd_ne nvc, upd_ne nvc, upd_same] at hl; cases hl
    have hl0 : H l = none := by rw [upd_ne nvl, upd_ne nvl, upd_ne ncl, upd_ne nvl] at hl; exact hl
    have ntl : tb ≠ l := fun z => by
      rw [z, upd_ne nvl, upd_same] at htb; cases htb
    have ntc : tb ≠ c := fun z => by
      rw [z, upd_ne nvc, upd_ne ncl.symm, upd_ne nvc, upd_ne nvc, upd_same] at htb; cases htb
    have ht0 : H tb = none := by rw [upd_ne nvt, upd_ne ntl, upd_ne nvt, upd_ne nvt, upd_ne ntc, upd_ne nvt] at htb; exact htb
    refine k c l tb _ hc0 hl0 ht0 (fun b o n e => ?_) ⟨⟨dx, upd_same⟩, ⟨[], ?_, .nil⟩, ⟨[], ?_, .nil⟩, ⟨[], ?_, .nil⟩, ntl.symm⟩
    · rw [upd_ne n, upd_ne (ne_of_none e ht0), upd_ne n, upd_ne (ne_of_none e hl0), upd_ne n, upd_ne n, upd_ne (ne_of_none e hc0), upd_ne n]
      exact e
    · rw [upd_ne nvc, upd_ne ntc.symm, upd_ne nvc, upd_ne ncl.symm, upd_ne nvc, upd_ne nvc, upd_same]
    · rw [upd_ne nvl, upd_ne ntl.symm, upd_ne nvl, upd_same]
    · rw [upd_ne nvt, upd_same]
def cellOf (B : Bk) (D : Dv) (k : Str) : Cell := (cAt D.cells k).getD (B.first, none)
def spVCell (C Cb : Addr) : Sp := fun vs H Q _ => ∃ (v c l tb bk : Addr) (D : Dv) (B : Bk) (k : Str), vs = [.ref v, .str k] ∧ DevAt C H v c l tb bk D ∧ BookAt Cb H bk B ∧ ∀ a H', Same H H' → H' a = some (.tup (cellV (cellOf B D k))) → Q (.ref a) H'
theorem scVCell : FnScope ["self", "key"] ["self", "key"] (defScope sVCell) := ⟨rfl, rfl, rfl, by decide +kernel, rfl, by decide +kernel, by decide +kernel⟩
theorem ok_vCell {f C Cb fF : Addr} {fd fdF : FuncData} (F : Fun K "_cell" "Device._cell" sVCell f fd) (DC : DevC K mg C) (BC : BookC K mg Cb) (mF : Meth K Cb "first" fF) (bF : Binds K fdF ["self"] []) (GF : FnOk P w K mg base CX0 1 fF fdF ["self"] (spBFirst Cb)) :
    FnOk P w K mg base CX0 2 f fd ["self", "key"] (spVCell C Cb) := by
  refine F.ok scVCell (fun vs H Q E h => ?_) (fun cdv A outer s H vs Q E hr h => ?_)
  · obtain ⟨v, c, l, tb, bk, D, B, k, rfl, _⟩ := h
    rfl
  · obtain ⟨v, c, l, tb, bk, D, B, kk, rfl, ⟨⟨dx, hv⟩, ⟨kvs, hc, rk⟩, hpa, hba, nlt⟩, hB, k⟩ := h
    have hu := hu_of hr
    refine ⟨_, pss_one (ps_ret (pe_dget2 hu (pe_fld (pv 0) rfl) (pv 1) (pe_tup (pa_cons (pe_meth0 (pe_fld (pv 0) rfl) BC.cl mF GF hr bF .nil pass0) (pa_cons pe_non pa_nil))) ⟨rfl, rfl, rfl, rfl⟩)), ?_⟩
    refine ⟨_, rfl, v, C, dx, _, .ref c, rfl, hv, DC.cl, DC.n2, dvF_cells .., c, rfl, .inl ⟨kvs, .inl hc⟩, _, rfl, _, rfl, v, C, dx, _, .ref bk, rfl, hv, DC.cl, DC.n1, dvF_book .., ?_⟩
    obtain ⟨dxb, ls, lt, e, w', tr, hp, _⟩ := id hB
    refine ⟨bk, dxb, _, rfl, hp, bkF_no _ _ _ _ _ _ (by decide +kernel), bk, B, rfl, hB, by show 2 ≤ sizeLine; decide, fun q hq => ?_⟩
    have s1 := same_new (o := .tup [.str B.first, .non]) hq
    refine ⟨_, DGet.k (k := Sum.inr kk) (s1 _ _ hc), ?_⟩
    have hv' := CellK.val (k := kk) rk
    unfold cellOf at k
    cases he : cAt D.cells kk with
    | none =>
      rw [he] at k
      rw [hv'.2 he]
      exact k q _ s1 upd_same
    | some ef =>
      rw [he] at k
      obtain ⟨a, va, ha⟩ := hv'.1 ef he
      rw [va]
      exact k a _ s1 (s1 _ _ ha)
end
end HN

namespace HN
open PySem L2
theorem CellK.get {H : Hp} : ∀ {kvs : List (Key × V)} {cells : List (Str × Cell)} {i : Nat} {p : Key × V}, CellK H kvs cells → kvs[i]? = some p → ∃ q, cells[i]? = some q ∧ p.1 = Sum.inr q.1 ∧ ∃ a, p.2 = .ref a ∧ H a = some (.tup (cellV q.2))
  | _, _, i, p, .nil, e => by simp at e
  | _, _, 0, p, .cons h t, e => by simp at e; subst e; exact ⟨_, rfl, h⟩
  | _, _, i + 1, p, .cons h t, e => by
    obtain ⟨q, e1, e2⟩ := CellK.get (i := i) t (by simpa using e)
    exact ⟨q, by simpa using e1, e2⟩
def spVRight (C Cb : Addr) : Sp := fun vs H Q _ => ∃ (v c l tb bk : Addr) (D : Dv) (B : Bk) (H0 : Hp), vs = [.ref v] ∧ DevAt C H v c l tb bk D ∧ Under H0 H v c l tb ∧ BookAt Cb H0 bk B ∧ B.first ∈ B.states ∧ (∀ p ∈ D.cells, p.2.1 ∈ B.states) ∧ D.cells.length ≤ 1001 ∧ ∀ H', Same H H' → Q (.int (rightOf B D.cells)) H'
section
variable {P : Program} {w : World} {K : PySem.W.Frag} {mg : Str → Option Value} {base : Heap}
theorem scVRight : FnScope ["self", "rest", "state", "_"] ["self"] (defScope sVRight) := ⟨rfl, rfl, rfl, by decide +kernel, rfl, by decide +kernel, by decide +kernel⟩
theorem ok_vRight {f C Cb fF fW : Addr} {fd fdF fdW : FuncData} (F : Fun K "_right" "Device._right" sVRight f fd) (T : Txt K mg) (DC : DevC K mg C) (BC : BookC K mg Cb) (mF : Meth K Cb "first" fF) (bF : Binds K fdF ["self"] []) (GF : FnOk P w K mg base CX0 1 fF fdF ["self"] (spBFirst Cb))
    (mW : Meth K Cb "worth" fW) (bW : Binds K fdW ["self", "state"] []) (GW : FnOk P w K mg base CX0 1 fW fdW ["self", "state"] (spBWorth Cb)) : FnOk P w K mg base CX0 2 f fd ["self"] (spVRight C Cb) := by
  refine F.ok scVRight (fun vs H Q E h => ?_) (fun cdv A outer s H vs Q E hr h => ?_)
  · obtain ⟨v, c, l, tb, bk, D, B, H0, rfl, _⟩ := h
    rfl
  · obtain ⟨v, c, l, tb, bk, D, B, H0, rfl, ⟨⟨dx, hv⟩, ⟨kvs, hc, rk⟩, hpa, hba, nlt⟩, U, hB0, hfirst, hst, hlen, k⟩ := h
    refine ⟨_, pss_cons (ps_set (i := 1) scVRight.nd rfl (Or.inr rfl) (pe_meth (pe_fld (pv 0) rfl) BC.cl mW GW hr bW .nil pass0 (pa_cons (pe_meth0 (pe_fld (pv 0) rfl) BC.cl mF GF hr bF .nil pass0) pa_nil)))
      (pss_one (ps_ret (pe_callB (cr_sum rfl) (by rfl) T.sum (by decide +kernel) (pa_cons (pe_lock (pe_lc (own := [("state", 2), ("_", 3)]) (g := gTup K 2 (gCons (gName 2) (gCons (gName 3) gNil))) (tt := tYes) rfl scVRight.nd (pi_values (pe_fld (pv 0) rfl))
        (blkOk_by (N := ["self", "rest", "state", "_"]) (sc := defScope sVRight) (by decide +kernel)) (fun _ _ _ _ _ => pg_tup rfl (pgs_cons (pg_name (i := 2) scVRight.nd rfl (Or.inl rfl)) (pgs_cons (pg_name (i := 3) scVRight.nd rfl (Or.inl rfl)) pgs_nil))) (fun _ _ _ _ _ => pts_nil)
        (fun _ _ _ _ _ => pe_op (r := rI0 fun i j => .int (i - j)) op_sub (pe_meth (ta := tFld K (tVar 0) "_book") (pe_fld (pv 0) rfl) BC.cl mW GW hr bW .nil pass0 (pa_cons (pv 2) pa_nil)) (pv 1)))) pa_nil)))), ?_⟩
    have hB := hB0.same U.same
    obtain ⟨dxb, ls, lt, e, w', tr, hp, _⟩ := id hB
    refine ⟨_, rfl, v, C, dx, _, .ref bk, rfl, hv, DC.cl, DC.n1, dvF_book .., bk, dxb, _, rfl, hp, bkF_no _ _ _ _ _ _ (by decide +kernel), ?_⟩
    refine ⟨_, rfl, v, C, dx, _, .ref bk, rfl, hv, DC.cl, DC.n1, dvF_book .., bk, dxb, _, rfl, hp, bkF_no _ _ _ _ _ _ (by decide +kernel), bk, B, rfl, hB, bk, B.first, B, rfl, hB, hfirst, ?_⟩
    -- under the lock
    refine ⟨c, _, hc, trivial, fun od => ?_⟩
    obtain ⟨Hf, hHf⟩ : ∃ Hf, Hf = upd H c (.frz od (.dK kvs)) := ⟨_, rfl⟩
    rw [← hHf]
    have hcf : Hf c = some (.frz od (.dK kvs)) := by rw [hHf]; exact upd_same
    have hvf : Hf v = some (.ins C dx (dvF bk c D.badge l tb)) := by rw [hHf, upd_ne (ne_of hv hc (fun z => nomatch z))]; exact hv
    have sf : Same H0 Hf := fun b o e => by rw [hHf, upd_ne (fun z => by rw [z, U.nc] at e; cases e)]; exact U.same b o e
    have rkf : CellK Hf kvs D.cells := rk.same fun a xs e => by rw [hHf, upd_ne (ne_of e hc (fun z => nomatch z))]; exact e
    refine ⟨_, rfl, v, C, dx, _, .ref c, rfl, hvf, DC.cl, DC.n2, dvF_cells .., c, od, kvs, rfl, hcf, fun L hL => lc_it walk_values (fun i H' => Same Hf H' ∧ H' L = some (.lst (((D.cells.map fun p => wOf B.worths p.2.1 - wOf B.worths B.first).take i).map V.int))) ⟨same_new hL, upd_same⟩ (fun i H' _ q => q.1 _ _ hcf) (fun i x H' H'' hi q y => ?_) (fun H' q => ?_)⟩
    · obtain ⟨hH, key, hkv⟩ := y
      have hH' := hH.symm
      subst hH'
      obtain ⟨sq, hLq⟩ := q
      obtain ⟨cell, hcell, ek, a, ev, ha⟩ := CellK.get rkf hkv
      have ev' : x = .ref a := ev
      subst ev'
      have hm := List.mem_of_getElem? hcell
      have hB' := (hB0.same sf).same sq
      obtain ⟨dxb', ls', lt', e', w2, tr', hp', _⟩ := id hB'
      refine ⟨a, _, rfl, SqT.of (sq _ _ ha), rfl, _, _, rfl, _, _, rfl, rfl, rfl, ?_⟩
      refine ⟨_, rfl, v, C, dx, _, .ref bk, rfl, sq _ _ hvf, DC.cl, DC.n1, dvF_book .., bk, dxb', _, rfl, hp', bkF_no _ _ _ _ _ _ (by decide +kernel), _, rfl, bk, cell.2.1, B, rfl, hB', hst _ hm, _, rfl, _, _, rfl, rfl, _, hLq, ?_, ?_, ?_⟩
      · rw [List.length_map, List.length_take, List.length_map]
        exact Nat.lt_of_le_of_lt (by omega : _ ≤ 1001) (by decide)
      · intro b o hbo
        rw [upd_ne (ne_of_none hbo hL)]
        exact sq b o hbo
      · rw [upd_same]
        have em : (D.cells.map fun p => wOf B.worths p.2.1 - wOf B.worths B.first)[i]? = some (wOf B.worths cell.2.1 - wOf B.worths B.first) := by rw [List.getElem?_map, hcell]; rfl
        rw [take_more em, List.map_append]; rfl
    · obtain ⟨sq, hLq⟩ := q
      refine ⟨sq _ _ hcf, ?_⟩
      have s8 := same_unlock hc (by rw [← hHf]; exact sq)
      have nLc : L ≠ c := fun z => by
        rw [z, hcf] at hL; cases hL
      rw [CellK.len rk] at hLq
      have el : (D.cells.map fun p => wOf B.worths p.2.1 - wOf B.worths B.first).take D.cells.length = D.cells.map fun p => wOf B.worths p.2.1 - wOf B.worths B.first := List.take_of_length_le (by rw [List.length_map]; exact Nat.le_refl _)
      rw [el] at hLq
      exact ⟨L, _, rfl, SqL.of (by rw [upd_ne nLc]; exact hLq), k _ s8⟩
end
end HN

namespace HN
open PySem L2
theorem ageOf_mem (n : Int) (held : Option Int) : ageOf n held ∈ ages := by
  unfold ageOf ages
  cases held with
  | none => exact List.mem_cons_self
  | some h =>
    dsimp only
    split
    · exact List.mem_cons_self
    · split
      · exact List.mem_cons_of_mem _ List.mem_cons_self
      · exact List.mem_cons_of_mem _ (List.mem_cons_of_mem _ List.mem_cons_self)
/-- a book as a device needs it -/
def OkB (B : Bk) : Prop := B.first ∈ B.states ∧ ∀ p ∈ B.rows, GoodEff B.states p.2
theorem effOf_good {B : Bk} (o : OkB B) {k : K3} (h : k.1 ∈ B.states) : GoodEff B.states (effOf B.rows k) := by
  unfold effOf
  cases e : effAt B.rows k with
  | none => exact ⟨h, fun i hi => by cases hi; exact ⟨by decide, by decide⟩⟩
  | some ef => exact o.2 _ (mem_effAt e)
theorem cAt_mem {cells : List (Str × Cell)} {k : Str} {c : Cell} (h : cAt cells k = some c) : (k, c) ∈ cells := by
  induction cells with
  | nil => cases h
  | cons q cells ih =>
    rw [cAt_cons] at h
    by_cases e : q.1 = k
    · rw [if_pos e] at h
      injection h with h
      subst e h
      exact List.mem_cons_self
    · rw [if_neg e] at h
      exact List.mem_cons_of_mem _ (ih h)
theorem cellOf_good {B : Bk} (o : OkB B) {D : Dv} (g : ∀ p ∈ D.cells, p.2.1 ∈ B.states) (k : Str) : (cellOf B D k).1 ∈ B.states := by
  unfold cellOf
  cases e : cAt D.cells k with
  | none => exact o.1
  | some c => exact g _ (cAt_mem e)
theorem cPut_mem {cells : List (Str × Cell)} {k : Str} {c : Cell} {p : Str × Cell} (h : p ∈ cPut cells k c) : p ∈ cells ∨ p = (k, c) := by
  unfold cPut at h
  split at h
  · obtain ⟨q, hq, e⟩ := List.mem_map.mp h
    by_cases z : q.1 = k
    · rw [if_pos z] at e
      exact .inr (by rw [← e, z])
    · rw [if_neg z] at e
      exact .inl (e ▸ hq)
  · rcases List.mem_append.mp h with h | h
    · exact .inl h
    · exact .inr (List.mem_singleton.mp h)
theorem cPut_keys (cells : List (Str × Cell)) (k : Str) (c : Cell) : (cPut cells k c).map (·.1) = if k ∈ cells.map (·.1) then cells.map (·.1) else cells.map (·.1) ++ [k] := by
  unfold cPut
  have hany : (cells.any fun p => decide (p.1 = k)) = decide (k ∈ cells.map (·.1)) := by
    rw [Bool.eq_iff_iff]
    simp only [List.any_eq_true, decide_eq_true_eq, List.mem_map]
  rw [hany]
  by_cases h : k ∈ cells.map (·.1)
  · rw [decide_eq_true h, if_pos rfl, if_pos h, List.map_map]
    apply List.map_congr_left
    intro p _
    show (if p.1 = k then (p.1, c) else p).1 = p.1
    split <;> rfl
  · rw [decide_eq_false h, if_neg Bool.false_ne_true, if_neg h, List.map_append]; rfl
theorem cPut_len (cells : List (Str × Cell)) (k : Str) (c : Cell) : (cPut cells k c).length ≤ cells.length + 1 := by
  unfold cPut
  split
  · rw [List.length_map]; omega
  · rw [List.length_append]; simp
theorem cPut_nd {cells : List (Str × Cell)} {k : Str} {c : Cell} (h : (cells.map (·.1)).Nodup) : ((cPut cells k c).map (·.1)).Nodup := by
  rw [cPut_keys]
  split
  · exact h
  · rename_i hk
    refine List.nodup_append.mpr ⟨h, by simp, fun a ha b hb => ?_⟩
    rw [List.mem_singleton] at hb
    subst hb
    exact fun e => hk (e ▸ ha)
theorem stepD_good {B : Bk} (o : OkB B) {D : Dv} {a : Letter} (g : GoodDv B D) (hl : D.past.length < 1000) (hw : isWord a.1 = true) : GoodDv B (stepD B D a) := by
  obtain ⟨g1, g2, g3, g4⟩ := g
  refine ⟨fun p hp => ?_, cPut_nd g2, ?_, ?_⟩
  · rcases cPut_mem hp with hp | rfl
    · exact g1 p hp
    · exact ⟨(effOf_good o (cellOf_good o (fun p hp => (g1 p hp).1) a.1)).1, hw⟩
  · show (cPut D.cells a.1 _).length ≤ (D.past ++ [_]).length
    have := cPut_len D.cells a.1 ((effAtLetter B D a).nx, if (effAtLetter B D a).hold then some a.2.2 else ((cAt D.cells a.1).getD (B.first, none)).2)
    rw [List.length_append]
    simp at this ⊢
    omega
  · show (D.past ++ [_]).length ≤ 1000
    rw [List.length_append]; simp; omega
theorem paired_snoc {α β : Type} {F : α → β → Prop} {a : α} {b : β} (h : F a b) : ∀ {xs : List α} {ys : List β}, Paired F xs ys → Paired F (xs ++ [a]) (ys ++ [b])
  | _, _, .nil => .cons h .nil
  | _, _, .cons r t => .cons r (paired_snoc h t)
theorem ite_tvar {b : Bool} {i j : Nat} {τ : L2.St} {H : Hp} {Q : VK} {x y : V} (hi : τ[i]? = some (some x)) (hj : τ[j]? = some (some y)) (h : Q (if b = true then x else y) H) : if b = true then tVar i τ H Q else tVar j τ H Q := by
  cases b
  · exact ⟨y, hj, h⟩
  · exact ⟨x, hi, h⟩
/-- what a device's defs leave as it was -/
def Fr3 (v c l : Addr) (H H' : Hp) : Prop := ∀ b o, b ≠ v → b ≠ c → b ≠ l → H b = some o → H' b = some o
theorem Fr3.of {v c l : Addr} {H H' : Hp} (s : Same H H') : Fr3 v c l H H' := fun b o _ _ _ e => s b o e
theorem Fr3.trans {v c l : Addr} {H H1 H2 : Hp} (a : Fr3 v c l H H1) (b : Fr3 v c l H1 H2) : Fr3 v c l H H2 := fun x o n1 n2 n3 e => b x o n1 n2 n3 (a x o n1 n2 n3 e)
def spVFollow (C Cb : Addr) : Sp := fun vs H Q _ => ∃ (v c l tb bk : Addr) (D : Dv) (B : Bk) (H0 : Hp) (a : Letter), vs = [.ref v, .str a.1, .str a.2.1, .int a.2.2] ∧ DevAt C H v c l tb bk D ∧ Under H0 H v c l tb ∧ BookAt Cb H0 bk B ∧ OkB B ∧ GoodDv B D ∧ D.past.length < 1000 ∧
  isWord a.1 = true ∧ a.2.1 ∈ B.sorts ∧ ∀ H', DevAt C H' v c l tb bk (stepD B D a) → Under H0 H' v c l tb → Fr3 v c l H H' → Q (.bl (effAtLetter B D a).ring) H'
section
variable {P : Program} {w : World} {K : PySem.W.Frag} {mg : Str → Option Value} {base : Heap}
theorem scVFollow : FnScope ["self", "key", "sort", "number", "state", "held", "behind", "holds", "rings", "step"] ["self", "key", "sort", "number"] (defScope sVFollow) := ⟨rfl, rfl, rfl, by decide +kernel, rfl, by decide +kernel, by decide +kernel⟩
theorem ok_vFollow {f C Cb fC fE fA fR : Addr} {fd fdC fdE fdA fdR : FuncData} (F : Fun K "_follow" "Device._follow" sVFollow f fd) (T : Txt K mg) (Cn : Cons K mg) (DC : DevC K mg C) (BC : BookC K mg Cb)
    (mC : Meth K C "_cell" fC) (bC : Binds K fdC ["self", "key"] []) (GC : FnOk P w K mg base CX0 2 fC fdC ["self", "key"] (spVCell C Cb))
    (mE : Meth K Cb "effect" fE) (bE : Binds K fdE ["self", "state", "sort", "age"] []) (GE : FnOk P w K mg base CX0 3 fE fdE ["self", "state", "sort", "age"] (spBEffect Cb))
    (DA : Def K mg "age_of" sAgeOf ["number", "held"] fA fdA) (GA : FnOk P w K mg base CX0 1 fA fdA ["number", "held"] spAgeOf)
    (mR : Meth K C "_right" fR) (bR : Binds K fdR ["self"] []) (GR : FnOk P w K mg base CX0 2 fR fdR ["self"] (spVRight C Cb)) : FnOk P w K mg base CX0 4 f fd ["self", "key", "sort", "number"] (spVFollow C Cb) := by
  obtain ⟨tW, mW⟩ := Cn.wh
  refine F.ok scVFollow (fun vs H Q E h => ?_) (fun cdv A outer s H vs Q E hr h => ?_)
  · obtain ⟨v, c, l, tb, bk, D, B, H0, a, rfl, _⟩ := h
    rfl
  · obtain ⟨v, c, l, tb, bk, D, B, H0, ⟨kk, sk, nn⟩, rfl, hD, U, hB0, ok, gd, hlp, hkw, hsk, k⟩ := h
    have hu := hu_of hr
    refine ⟨_, pss_cons (ps_asg (pe_meth (pv 0) DC.cl mC GC (hr.mono (by decide)) bC .nil pass0 (pa_cons (pv 1) pa_nil)) (pg_tup rfl (pgs_cons (pg_name (i := 4) scVFollow.nd rfl (Or.inl rfl)) (pgs_cons (pg_name (i := 5) scVFollow.nd rfl (Or.inl rfl)) pgs_nil))))
      (pss_cons (ps_asg (pe_meth (pe_fld (pv 0) rfl) BC.cl mE GE hr bE .nil pass0 (pa_cons (pv 4) (pa_cons (pv 2) (pa_cons (pe_call GA (hr.mono (by decide)) (by rfl) DA.m DA.F.kp DA.b .nil pass0 (pa_cons (pv 3) (pa_cons (pv 5) pa_nil))) pa_nil))))
        (pg_tup rfl (pgs_cons (pg_name (i := 6) scVFollow.nd rfl (Or.inl rfl)) (pgs_cons (pg_name (i := 7) scVFollow.nd rfl (Or.inl rfl)) (pgs_cons (pg_name (i := 8) scVFollow.nd rfl (Or.inl rfl)) (pgs_cons (pg_name (i := 9) scVFollow.nd rfl (Or.inl rfl)) pgs_nil))))))
      (pss_cons (ps_expr (pe_bm PySem.F.plainAttrs_list PySem.F.slot_list_append PySem.F.type_list_append mt_append (pe_fld (pv 0) rfl)
        (pa_cons (pe_tup (pa_cons (pe_tup (pa_cons (pv 1) (pa_cons (pv 2) (pa_cons (pv 3) pa_nil)))) (pa_cons (pe_dget1 hu (pe_fld (pv 0) rfl) (pv 1) ⟨rfl, rfl, rfl, rfl⟩) (pa_cons (pe_fld (pv 0) rfl) pa_nil)))) pa_nil)))
      (pss_cons (ps_dput hu (pe_fld (pv 0) rfl) (pv 1) (pe_tup (pa_cons (pv 6) (pa_cons (pe_ifExp (pt_val (pv 7)) (pv 3) (pv 5)) pa_nil))) rfl)
      (pss_cons (ps_fld (pv 0) (pe_ifExp (pt_cmpR op_eq (pv 9) (pe_glob (v := .str "whole") (by rfl) mW ⟨_, rfl⟩) (nomark _)) (pe_meth0 (pv 0) DC.cl mR GR (hr.mono (by decide)) bR .nil pass0) (pe_op op_add (pe_fld (pv 0) rfl) (pv 9))) rfl)
      (pss_one (ps_ret (pv 8))))))), ?_⟩
    obtain ⟨dx, hv⟩ := hD.ob
    have hB := hB0.same U.same
    -- state, held = self._cell(key)
    refine ⟨_, rfl, v, dx, _, rfl, hv, dvF_no _ _ _ _ _ (by decide +kernel), _, rfl, v, c, l, tb, bk, D, B, kk, rfl, hD, hB, fun a H1 s1 ha => ?_⟩
    refine ⟨a, _, rfl, SqT.of ha, rfl, _, _, rfl, _, _, rfl, rfl, ?_⟩
    have hv1 := s1 _ _ hv
    obtain ⟨dxb, ls, lt, e, w', tr, hp, _⟩ := id (hB.same s1)
    -- behind, holds, rings, step = self._book.effect(..)
    refine ⟨_, rfl, v, C, dx, _, .ref bk, rfl, hv1, DC.cl, DC.n1, dvF_book .., bk, dxb, _, rfl, hp, bkF_no _ _ _ _ _ _ (by decide +kernel), _, rfl, _, rfl, _, rfl, _, rfl, nn, (cellOf B D kk).2, rfl, ?_⟩
    have gst := cellOf_good ok (fun p hp => (gd.1 p hp).1) kk
    refine ⟨bk, ((cellOf B D kk).1, sk, ageOf nn (cellOf B D kk).2), B, rfl, hB.same s1, ⟨gst, hsk, ageOf_mem _ _⟩, fun ea H2 s2 hea => ?_⟩
    have s02 := s1.trans s2
    obtain ⟨ef, hef⟩ : ∃ ef, ef = effAtLetter B D (kk, sk, nn) := ⟨_, rfl⟩
    have hea' : H2 ea = some (.tup (effV ef)) := by rw [hef]; exact hea
    refine ⟨ea, _, rfl, SqT.of hea', rfl, _, _, rfl, _, _, rfl, _, _, rfl, _, _, rfl, rfl, ?_⟩
    have gef : GoodEff B.states ef := by rw [hef]; exact effOf_good ok gst
    -- self._past.append(..)
    obtain ⟨⟨dx2, hv2⟩, ⟨kvs, hc2, rk⟩, ⟨xs, hl2, rp⟩, ⟨ys, ht2, rt⟩, nlt⟩ := hD.tups s02
    have edx : dx2 = dx := by
      rw [s02 _ _ hv] at hv2
      injection hv2 with z; injection z with _ z _; exact z.symm
    subst edx
    refine ⟨_, rfl, v, C, _, _, .ref l, rfl, hv2, DC.cl, DC.n4, dvF_past .., .inl ⟨rfl, _, SqL.of hl2⟩, ?_⟩
    refine ⟨_, rfl, _, rfl, _, rfl, by show 3 ≤ sizeLine; decide, fun t ht => ?_⟩
    have s3 := same_new (o := .tup (letV (kk, sk, nn))) ht
    have e3 : upd H2 t (.tup [.str kk, .str sk, .int nn]) t = some (.tup (letV (kk, sk, nn))) := upd_same
    generalize hH3 : upd H2 t (.tup [.str kk, .str sk, .int nn]) = H3 at e3
    have s3' : Same H2 H3 := by rw [← hH3]; exact s3
    refine ⟨_, rfl, v, C, _, _, .ref c, rfl, s3' _ _ hv2, DC.cl, DC.n2, dvF_cells .., c, rfl, .inl ⟨kvs, .inl (s3' _ _ hc2)⟩, _, rfl, _, DGet.k (k := Sum.inr kk) (s3' _ _ hc2), ?_⟩
    refine ⟨_, rfl, v, C, _, _, .int D.badge, rfl, s3' _ _ hv2, DC.cl, DC.n3, dvF_badge .., by show 3 ≤ sizeLine; decide, fun pa hpa => ?_⟩
    have s4 := s3'.trans (same_new (o := .tup [.ref t, ((valV kvs (Sum.inr kk)).getD .non), .int D.badge]) hpa)
    generalize hH4 : upd H3 pa (.tup [.ref t, ((valV kvs (Sum.inr kk)).getD .non), .int D.badge]) = H4 at s4 ⊢
    have hpa4 : H4 pa = some (.tup [.ref t, ((valV kvs (Sum.inr kk)).getD .non), .int D.badge]) := by rw [← hH4]; exact upd_same
    have ht4 : H4 t = some (.tup (letV (kk, sk, nn))) := by rw [← hH4]; exact same_new hpa _ _ e3
    have lxs : xs.length = D.past.length := Paired.length rp
    refine ⟨l, xs, _, rfl, rfl, s4 _ _ hl2, Nat.lt_of_le_of_lt (by omega : xs.length ≤ 1000) (by decide), ?_⟩
    have b5 : But l H4 (upd H4 l (.lst (xs ++ [.ref pa]))) := But.upd
    generalize hH5 : upd H4 l (.lst (xs ++ [.ref pa])) = H5 at b5 ⊢
    have hl5 : H5 l = some (.lst (xs ++ [.ref pa])) := by rw [← hH5]; exact upd_same
    have hl4 := s4 _ _ hl2
    have tup5 : ∀ a xs', H4 a = some (.tup xs') → H5 a = some (.tup xs') := fun a xs' e => b5 _ _ (ne_of e hl4 (fun z => nomatch z)) e
    have hv5 : H5 v = _ := b5 _ _ (ne_of (s4 _ _ hv2) hl4 (fun z => nomatch z)) (s4 _ _ hv2)
    have hc5 : H5 c = _ := b5 _ _ (ne_of (s4 _ _ hc2) hl4 (fun z => nomatch z)) (s4 _ _ hc2)
    have ht5 : H5 tb = _ := b5 _ _ nlt.symm (s4 _ _ ht2)
    -- self._cells[key] = (behind, number if holds else held)
    refine ⟨_, rfl, _, rfl, _, rfl, ?_⟩
    show if ef.hold = true then tVar 3 _ _ _ else tVar 5 _ _ _
    refine ite_tvar rfl rfl ?_
    obtain ⟨hd', hhd⟩ : ∃ hd', hd' = (if ef.hold = true then some nn else (cellOf B D kk).2) := ⟨_, rfl⟩
    have ehv : (if ef.hold = true then V.int nn else HN.hv (cellOf B D kk).2) = HN.hv hd' := by
      rw [hhd]; split <;> rfl
    rw [ehv]
    refine ⟨by show 2 ≤ sizeLine; decide, fun q hq => ?_⟩
    have s6 := same_new (o := .tup (cellV (ef.nx, hd'))) hq
    have e6 : upd H5 q (.tup [.str ef.nx, HN.hv hd']) q = some (.tup (cellV (ef.nx, hd'))) := upd_same
    have s6' : Same H5 (upd H5 q (.tup [.str ef.nx, HN.hv hd'])) := s6
    generalize hH6 : upd H5 q (.tup [.str ef.nx, HN.hv hd']) = H6 at e6 s6' ⊢
    have hv6 := s6' _ _ hv5
    have hc6 := s6' _ _ hc5
    have rk5 : CellK H6 kvs D.cells := rk.same fun a xs' e => s6' _ _ (tup5 _ _ (s4 _ _ e))
    refine ⟨_, rfl, v, C, _, _, .ref c, rfl, hv6, DC.cl, DC.n2, dvF_cells .., _, rfl, c, _, rfl, DPut.k (k := Sum.inr kk) hc6 ?_, ?_⟩
    · rw [CellK.len rk]
      have := gd.2.2.1
      exact Nat.lt_of_le_of_lt (by omega : _ ≤ 1000) (by decide)
    have b7 : But c H6 (upd H6 c (.dK (putK kvs (Sum.inr kk) (.ref q)))) := But.upd
    generalize hH7 : upd H6 c (.dK (putK kvs (Sum.inr kk) (.ref q))) = H7 at b7 ⊢
    have hc7 : H7 c = some (.dK (putK kvs (Sum.inr kk) (.ref q))) := by rw [← hH7]; exact upd_same
    have tup7 : ∀ a xs', H6 a = some (.tup xs') → H7 a = some (.tup xs') := fun a xs' e => b7 _ _ (ne_of e hc6 (fun z => nomatch z)) e
    have hv7 : H7 v = _ := b7 _ _ (ne_of hv6 hc6 (fun z => nomatch z)) hv6
    have nlc : l ≠ c := ne_of hl2 hc2 (fun z => nomatch z)
    have ntc : tb ≠ c := ne_of ht2 hc2 (fun z => nomatch z)
    have hl7 : H7 l = _ := b7 _ _ nlc (s6' _ _ hl5)
    have ht7 : H7 tb = _ := b7 _ _ ntc (s6' _ _ ht5)
    have tup27 : ∀ a xs', H2 a = some (.tup xs') → H7 a = some (.tup xs') := fun a xs' e => tup7 _ _ (s6' _ _ (tup5 _ _ (s4 _ _ e)))
    -- the device but for its badge
    have ck7 : CellK H7 (putK kvs (Sum.inr kk) (.ref q)) (cPut D.cells kk (ef.nx, hd')) := (rk5.same tup7).put (tup7 _ _ e6)
    have pa7 : Paired (PastIs H7) (xs ++ [.ref pa]) (D.past ++ [⟨(kk, sk, nn), cAt D.cells kk, D.badge⟩]) := by
      have one : PastIs H7 (.ref pa) ⟨(kk, sk, nn), cAt D.cells kk, D.badge⟩ := by
        refine ⟨pa, t, (valV kvs (Sum.inr kk)).getD .non, rfl, tup7 _ _ (s6' _ _ (tup5 _ _ hpa4)), tup7 _ _ (s6' _ _ (tup5 _ _ ht4)), ?_⟩
        have vv := CellK.val (k := kk) rk
        cases he : cAt D.cells kk with
        | none =>
          rw [vv.2 he]; rfl
        | some ce =>
          obtain ⟨a, va, ha⟩ := vv.1 ce he
          exact ⟨a, by rw [va]; rfl, tup27 _ _ ha⟩
      have old : Paired (PastIs H7) xs D.past := Paired.mapP rp fun x y z => z.same tup27
      exact paired_snoc one old
    have ba7 : Paired (LetIs H7) ys D.back := Paired.mapP rt fun x y ⟨t', q1, q2⟩ => ⟨t', q1, tup27 _ _ q2⟩
    have U7 : Under H0 H7 v c l tb := by
      refine ⟨fun b o e => ?_, U.nv, U.nc, U.nl, U.nt⟩
      have nb : ∀ {x}, H0 x = none → b ≠ x := fun n z => by rw [z, n] at e; cases e
      exact b7 _ _ (nb U.nc) (s6' _ _ (b5 _ _ (nb U.nl) (s4 _ _ (s02 _ _ (U.same _ _ e)))))
    have fr7 : Fr3 v c l H H7 := fun b o n1 n2 n3 e => b7 _ _ n2 (s6' _ _ (b5 _ _ n3 (s4 _ _ (s02 _ _ e))))
    have dev7 : DevAt C H7 v c l tb bk ⟨cPut D.cells kk (ef.nx, hd'), D.badge, D.past ++ [⟨(kk, sk, nn), cAt D.cells kk, D.badge⟩], D.back⟩ := ⟨⟨_, hv7⟩, ⟨_, hc7, ck7⟩, ⟨_, hl7, pa7⟩, ⟨_, ht7, ba7⟩, nlt⟩
    -- the end: the badge stored
    have fin : ∀ (H8 : Hp) (z : Int), Same H7 H8 → z = (match ef.step with | none => rightOf B (cPut D.cells kk (ef.nx, hd')) | some i => D.badge + i) → Q (.bl ef.ring) (upd H8 v (.ins C dx2 (putF "_badge" (.int z) (dvF bk c D.badge l tb)))) := by
      intro H8 z s8 hz
      rw [dvF_put]
      have hv8 := s8 _ _ hv7
      have d8 := dev7.tups s8
      have U8 : Under H0 H8 v c l tb := ⟨U7.same.trans s8, U7.nv, U7.nc, U7.nl, U7.nt⟩
      have b9 : But v H8 (upd H8 v (.ins C dx2 (dvF bk c z l tb))) := But.upd
      obtain ⟨_, ⟨kv8, hc8, rk8⟩, ⟨xs8, hl8, rp8⟩, ⟨ys8, ht8, rt8⟩, _⟩ := d8
      have tup9 : ∀ a xs', H8 a = some (.tup xs') → (upd H8 v (.ins C dx2 (dvF bk c z l tb))) a = some (.tup xs') := fun a xs' e => b9 _ _ (ne_of e hv8 (fun z => nomatch z)) e
      have e1 : stepD B D (kk, sk, nn) = ⟨cPut D.cells kk (ef.nx, hd'), z, D.past ++ [⟨(kk, sk, nn), cAt D.cells kk, D.badge⟩], D.back⟩ := by
        unfold stepD
        dsimp only
        rw [← hef, hz, hhd]; rfl
      have := k (upd H8 v (.ins C dx2 (dvF bk c z l tb))) (by
        rw [e1]
        exact ⟨⟨_, upd_same⟩, ⟨_, b9 _ _ (ne_of hc8 hv8 (fun z => nomatch z)) hc8, rk8.same tup9⟩, ⟨_, b9 _ _ (ne_of hl8 hv8 (fun z => nomatch z)) hl8, Paired.mapP rp8 fun x y z => z.same tup9⟩, ⟨_, b9 _ _ (ne_of ht8 hv8 (fun z => nomatch z)) ht8, Paired.mapP rt8 fun x y ⟨t', q1, q2⟩ => ⟨t', q1, tup9 _ _ q2⟩⟩, nlt⟩)
        ⟨fun b o e => b9 _ _ (fun z => by rw [z, U.nv] at e; cases e) (U8.same _ _ e), U.nv, U.nc, U.nl, U.nt⟩ (fun b o n1 n2 n3 e => b9 _ _ n1 (s8 _ _ (fr7 b o n1 n2 n3 e)))
      rw [← hef] at this
      exact this
    refine ⟨_, rfl, ?_⟩
    cases hst : ef.step with
    | none =>
      refine ⟨rfl, _, rfl, ?_⟩
      refine iteE (decide_eq_true rfl) ?_
      refine ⟨_, rfl, v, dx2, _, rfl, hv7, dvF_no _ _ _ _ _ (by decide +kernel), v, c, l, tb, bk, _, B, H0, rfl, dev7, U7, hB0, ok.1, fun p hp => ?_, ?_, fun H8 s8 => ?_⟩
      · rcases cPut_mem hp with hp | rfl
        · exact (gd.1 p hp).1
        · exact gef.1
      · have := cPut_len D.cells kk (ef.nx, hd')
        have := gd.2.2.1
        show (cPut D.cells kk (ef.nx, hd')).length ≤ 1001
        omega
      · refine ⟨_, rfl, v, C, dx2, _, rfl, s8 _ _ hv7, DC.cl, DC.n3, by show 5 < 1000; decide, _, rfl, ?_⟩
        exact fin H8 _ s8 (by rw [hst])
    | some i =>
      refine ⟨rfl, _, rfl, ?_⟩
      refine iteEF (decide_eq_false (fun z => by cases z)) ?_
      refine ⟨_, rfl, v, C, dx2, _, .int D.badge, rfl, hv7, DC.cl, DC.n3, dvF_badge .., _, rfl, _, _, rfl, rfl, ?_⟩
      refine ⟨_, rfl, v, C, dx2, _, rfl, hv7, DC.cl, DC.n3, by show 5 < 1000; decide, _, rfl, ?_⟩
      exact fin H7 _ (Same.refl _) (by rw [hst])
end
end HN

namespace HN
open PySem L2
def takeD (B : Bk) (D : Dv) (a : Letter) : Dv := { stepD B D a with back := [] }
def spVTake (C Cb : Addr) : Sp := fun vs H Q _ => ∃ (v c l tb bk : Addr) (D : Dv) (B : Bk) (H0 : Hp) (a : Letter), vs = [.ref v, .str a.1, .str a.2.1, .int a.2.2] ∧ DevAt C H v c l tb bk D ∧ Under H0 H v c l tb ∧ BookAt Cb H0 bk B ∧ OkB B ∧ GoodDv B D ∧ D.past.length < 1000 ∧
  isWord a.1 = true ∧ a.2.1 ∈ B.sorts ∧ ∀ r tb' H', H tb' = none → DevAt C H' v c l tb' bk (takeD B D a) → Under H0 H' v c l tb' → Fr3 v c l H H' → H' r = some (.tup [.bl (effAtLetter B D a).ring, .int (stepD B D a).badge]) → Q (.ref r) H'
section
variable {P : Program} {w : World} {K : PySem.W.Frag} {mg : Str → Option Value} {base : Heap}
theorem scVTake : FnScope ["self", "key", "sort", "number", "rings"] ["self", "key", "sort", "number"] (defScope sVTake) := ⟨rfl, rfl, rfl, by decide +kernel, rfl, by decide +kernel, by decide +kernel⟩
theorem ok_vTake {f C Cb fL fS fF : Addr} {fd fdL fdS fdF : FuncData} (F : Fun K "take" "Device.take" sVTake f fd) (DC : DevC K mg C) (BC : BookC K mg Cb)
    (DL : Def K mg "check_letter" sCheckLetter ["key", "sort", "number", "sorts"] fL fdL) (GL : FnOk P w K mg base CX0 3 fL fdL ["key", "sort", "number", "sorts"] (spCheckLetter K))
    (mS : Meth K Cb "sorts" fS) (bS : Binds K fdS ["self"] []) (GS : FnOk P w K mg base CX0 1 fS fdS ["self"] (spBSorts Cb))
    (mF : Meth K C "_follow" fF) (bF : Binds K fdF ["self", "key", "sort", "number"] []) (GF : FnOk P w K mg base CX0 4 fF fdF ["self", "key", "sort", "number"] (spVFollow C Cb)) : FnOk P w K mg base CX0 5 f fd ["self", "key", "sort", "number"] (spVTake C Cb) := by
  refine F.ok scVTake (fun vs H Q E h => ?_) (fun cdv A outer s H vs Q E hr h => ?_)
  · obtain ⟨v, c, l, tb, bk, D, B, H0, a, rfl, _⟩ := h
    rfl
  · obtain ⟨v, c, l, tb, bk, D, B, H0, a, rfl, hD, U, hB0, ok, gd, hlp, hkw, hsk, k⟩ := h
    refine ⟨_, pss_cons (ps_expr (pe_call GL (hr.mono (by decide)) (by rfl) DL.m DL.F.kp DL.b .nil pass0 (pa_cons (pv 1) (pa_cons (pv 2) (pa_cons (pv 3) (pa_cons (pe_meth0 (pe_fld (pv 0) rfl) BC.cl mS GS (hr.mono (by decide)) bS .nil pass0) pa_nil))))))
      (pss_cons (ps_set (i := 4) scVTake.nd rfl (Or.inl rfl) (pe_meth (pv 0) DC.cl mF GF hr bF .nil pass0 (pa_cons (pv 1) (pa_cons (pv 2) (pa_cons (pv 3) pa_nil)))))
      (pss_cons (ps_fld (pv 0) (pe_lst pa_nil) rfl)
      (pss_one (ps_ret (pe_tup (pa_cons (pv 4) (pa_cons (pe_fld (pv 0) rfl) pa_nil))))))), ?_⟩
    obtain ⟨dx, hv⟩ := hD.ob
    have hB := hB0.same U.same
    obtain ⟨dxb, ls, lt, e, w', tr, hp, _⟩ := id hB
    refine ⟨_, rfl, _, rfl, _, rfl, _, rfl, v, C, dx, _, .ref bk, rfl, hv, DC.cl, DC.n1, dvF_book .., bk, dxb, _, rfl, hp, bkF_no _ _ _ _ _ _ (by decide +kernel), bk, B, rfl, hB, fun q hq => ?_⟩
    have s1 := same_new (o := .lst (B.sorts.map V.str)) hq
    refine ⟨a.1, a.2.1, a.2.2, q, B.sorts, rfl, hkw, SqL.of upd_same, hsk, ?_⟩
    refine ⟨_, rfl, v, dx, _, rfl, s1 _ _ hv, dvF_no _ _ _ _ _ (by decide +kernel), _, rfl, _, rfl, _, rfl, v, c, l, tb, bk, D, B, H0, a, rfl, hD.tups s1, ⟨U.same.trans s1, U.nv, U.nc, U.nl, U.nt⟩, hB0, ok, gd, hlp, hkw, hsk, fun H2 d2 U2 fr2 => ?_⟩
    obtain ⟨⟨dx2, hv2⟩, ⟨kvs, hc2, rk⟩, ⟨xs, hl2, rp⟩, ⟨ys, ht2, rt⟩, nlt⟩ := d2
    refine ⟨Nat.zero_le _, fun tb' htb => ⟨_, rfl, v, C, dx2, _, rfl, same_new htb _ _ hv2, DC.cl, DC.n5, by show 5 < 1000; decide, ?_⟩⟩
    rw [dvF_putT]
    have s3 := same_new (o := .lst []) htb
    have hv3 := s3 _ _ hv2
    have b4 : But v (upd H2 tb' (.lst [])) (upd (upd H2 tb' (.lst [])) v (.ins C dx2 (dvF bk c (stepD B D a).badge l tb'))) := But.upd
    have ntb : tb' ≠ v := fun z => by rw [z, hv2] at htb; cases htb
    have ht4 : (upd (upd H2 tb' (.lst [])) v (.ins C dx2 (dvF bk c (stepD B D a).badge l tb'))) tb' = some (.lst []) := by rw [upd_ne ntb, upd_same]
    generalize hH4 : upd (upd H2 tb' (.lst [])) v (.ins C dx2 (dvF bk c (stepD B D a).badge l tb')) = H4 at b4 ht4 ⊢
    have hv4 : H4 v = some (.ins C dx2 (dvF bk c (stepD B D a).badge l tb')) := by rw [← hH4]; exact upd_same
    have keep4 : ∀ b o, b ≠ v → H2 b = some o → H4 b = some o := fun b o n e => b4 _ _ n (s3 _ _ e)
    refine ⟨_, rfl, _, rfl, v, C, dx2, _, .int (stepD B D a).badge, rfl, hv4, DC.cl, DC.n3, dvF_badge .., by show 2 ≤ sizeLine; decide, fun r hr' => ?_⟩
    have s5 := same_new (o := .tup [.bl (effAtLetter B D a).ring, .int (stepD B D a).badge]) hr'
    have tup4 : ∀ a xs', H2 a = some (.tup xs') → H4 a = some (.tup xs') := fun a xs' e => keep4 _ _ (ne_of e hv2 (fun z => nomatch z)) e
    have d4 : DevAt C H4 v c l tb' bk (takeD B D a) := ⟨⟨_, hv4⟩, ⟨_, keep4 _ _ (ne_of hc2 hv2 (fun z => nomatch z)) hc2, rk.same tup4⟩, ⟨_, keep4 _ _ (ne_of hl2 hv2 (fun z => nomatch z)) hl2, Paired.mapP rp fun x y z => z.same tup4⟩, ⟨[], ht4, .nil⟩, fun z => by rw [← z, hl2] at htb; cases htb⟩
    have fr4 : Fr3 v c l H H4 := fun b o n1 n2 n3 e => keep4 _ _ n1 (fr2 b o n1 n2 n3 (s1 _ _ e))
    have nH : H tb' = none := by
      cases z : H tb' with
      | none => rfl
      | some o =>
        have n2 : tb' ≠ c := fun y => by rw [y, hc2] at htb; cases htb
        have n3 : tb' ≠ l := fun y => by rw [y, hl2] at htb; cases htb
        have := fr2 _ _ ntb n2 n3 (s1 _ _ z)
        rw [this] at htb; cases htb
    have U4 : Under H0 H4 v c l tb' := ⟨fun b o e => keep4 _ _ (fun z => by rw [z, U.nv] at e; cases e) (U2.same _ _ e), U.nv, U.nc, U.nl, U.same.free nH⟩
    exact k r tb' _ nH (d4.tups s5) ⟨U4.same.trans s5, U4.nv, U4.nc, U4.nl, U4.nt⟩ (fr4.trans (Fr3.of s5)) upd_same
/-! ### what a device tells -/
def spVState (C Cb : Addr) : Sp := fun vs H Q _ => ∃ (v c l tb bk : Addr) (D : Dv) (B : Bk) (k : Str), vs = [.ref v, .str k] ∧ DevAt C H v c l tb bk D ∧ BookAt Cb H bk B ∧ isWord k = true ∧ ∀ H', Same H H' → Q (.str (cellOf B D k).1) H'
def spVHeld (C Cb : Addr) : Sp := fun vs H Q _ => ∃ (v c l tb bk : Addr) (D : Dv) (B : Bk) (k : Str), vs = [.ref v, .str k] ∧ DevAt C H v c l tb bk D ∧ BookAt Cb H bk B ∧ isWord k = true ∧ ∀ H', Same H H' → Q (HN.hv (cellOf B D k).2) H'
theorem scVState : FnScope ["self", "key"] ["self", "key"] (defScope sVState) := ⟨rfl, rfl, rfl, by decide +kernel, rfl, by decide +kernel, by decide +kernel⟩
theorem ok_vState {f C Cb fK fC : Addr} {fd fdK fdC : FuncData} (F : Fun K "state" "Device.state" sVState f fd) (DC : DevC K mg C) (DK : Def K mg "check_key" sCheckKey ["key"] fK fdK) (GK : FnOk P w K mg base CX0 2 fK fdK ["key"] spCheckKey)
    (mC : Meth K C "_cell" fC) (bC : Binds K fdC ["self", "key"] []) (GC : FnOk P w K mg base CX0 2 fC fdC ["self", "key"] (spVCell C Cb)) : FnOk P w K mg base CX0 3 f fd ["self", "key"] (spVState C Cb) := by
  refine F.ok scVState (fun vs H Q E h => ?_) (fun cdv A outer s H vs Q E hr h => ?_)
  · obtain ⟨v, c, l, tb, bk, D, B, k, rfl, _⟩ := h
    rfl
  · obtain ⟨v, c, l, tb, bk, D, B, kk, rfl, hD, hB, hw, k⟩ := h
    refine ⟨_, pss_cons (ps_expr (pe_call GK hr (by rfl) DK.m DK.F.kp DK.b .nil pass0 (pa_cons (pv 1) pa_nil)))
      (pss_one (ps_ret (pe_ix ix_tup (pe_meth (pv 0) DC.cl mC GC hr bC .nil pass0 (pa_cons (pv 1) pa_nil)) pe_int (fun _ _ => rfl)))), ?_⟩
    obtain ⟨dx, hv⟩ := hD.ob
    refine ⟨_, rfl, kk, rfl, hw, ?_⟩
    exact ⟨_, rfl, v, dx, _, rfl, hv, dvF_no _ _ _ _ _ (by decide +kernel), _, rfl, v, c, l, tb, bk, D, B, kk, rfl, hD, hB, fun a H' s' ha => ⟨a, _, 0, _, rfl, rfl, SqT.of ha, rfl, k H' s'⟩⟩
theorem scVHeld : FnScope ["self", "key"] ["self", "key"] (defScope sVHeld) := ⟨rfl, rfl, rfl, by decide +kernel, rfl, by decide +kernel, by decide +kernel⟩
theorem ok_vHeld {f C Cb fK fC : Addr} {fd fdK fdC : FuncData} (F : Fun K "held" "Device.held" sVHeld f fd) (DC : DevC K mg C) (DK : Def K mg "check_key" sCheckKey ["key"] fK fdK) (GK : FnOk P w K mg base CX0 2 fK fdK ["key"] spCheckKey)
    (mC : Meth K C "_cell" fC) (bC : Binds K fdC ["self", "key"] []) (GC : FnOk P w K mg base CX0 2 fC fdC ["self", "key"] (spVCell C Cb)) : FnOk P w K mg base CX0 3 f fd ["self", "key"] (spVHeld C Cb) := by
  refine F.ok scVHeld (fun vs H Q E h => ?_) (fun cdv A outer s H vs Q E hr h => ?_)
  · obtain ⟨v, c, l, tb, bk, D, B, k, rfl, _⟩ := h
    rfl
  · obtain ⟨v, c, l, tb, bk, D, B, kk, rfl, hD, hB, hw, k⟩ := h
    refine ⟨_, pss_cons (ps_expr (pe_call GK hr (by rfl) DK.m DK.F.kp DK.b .nil pass0 (pa_cons (pv 1) pa_nil)))
      (pss_one (ps_ret (pe_ix ix_tup (pe_meth (pv 0) DC.cl mC GC hr bC .nil pass0 (pa_cons (pv 1) pa_nil)) pe_int (fun _ _ => rfl)))), ?_⟩
    obtain ⟨dx, hv⟩ := hD.ob
    refine ⟨_, rfl, kk, rfl, hw, ?_⟩
    exact ⟨_, rfl, v, dx, _, rfl, hv, dvF_no _ _ _ _ _ (by decide +kernel), _, rfl, v, c, l, tb, bk, D, B, kk, rfl, hD, hB, fun a H' s' ha => ⟨a, _, 1, _, rfl, rfl, SqT.of ha, rfl, k H' s'⟩⟩
def spVBadge (C : Addr) : Sp := fun vs H Q _ => ∃ (v c l tb bk : Addr) (D : Dv), vs = [.ref v] ∧ DevAt C H v c l tb bk D ∧ Q (.int D.badge) H
theorem scVBadge : FnScope ["self"] ["self"] (defScope sVBadge) := ⟨rfl, rfl, rfl, by decide +kernel, rfl, by decide +kernel, by decide +kernel⟩
theorem ok_vBadge {f C : Addr} {fd : FuncData} (F : Fun K "badge" "Device.badge" sVBadge f fd) (DC : DevC K mg C) : FnOk P w K mg base CX0 1 f fd ["self"] (spVBadge C) := by
  refine F.ok scVBadge (fun vs H Q E h => ?_) (fun cdv A outer s H vs Q E hr h => ?_)
  · obtain ⟨v, c, l, tb, bk, D, rfl, _⟩ := h
    rfl
  · obtain ⟨v, c, l, tb, bk, D, rfl, ⟨⟨dx, hv⟩, _⟩, k⟩ := h
    refine ⟨_, pss_one (ps_ret (pe_fld (pv 0) rfl)), ?_⟩
    exact ⟨_, rfl, v, C, dx, _, .int D.badge, rfl, hv, DC.cl, DC.n3, dvF_badge .., k⟩
def spVLetters (C : Addr) : Sp := fun vs H Q _ => ∃ (v c l tb bk : Addr) (D : Dv), vs = [.ref v] ∧ DevAt C H v c l tb bk D ∧ D.past.length ≤ 1000 ∧ ∀ p H', Same H H' → H p = none → BackAt H' p (D.past.map (·.letter)) → Q (.ref p) H'
theorem scVLetters : FnScope ["self", "took"] ["self"] (defScope sVLetters) := ⟨rfl, rfl, rfl, by decide +kernel, rfl, by decide +kernel, by decide +kernel⟩
theorem paired_get {α β : Type} {F : α → β → Prop} : ∀ {xs : List α} {ys : List β} {i : Nat} {x : α}, Paired F xs ys → xs[i]? = some x → ∃ y, ys[i]? = some y ∧ F x y
  | _, _, i, x, .nil, e => by simp at e
  | _, _, 0, x, .cons h t, e => by simp at e; subst e; exact ⟨_, rfl, h⟩
  | _, _, i + 1, x, .cons h t, e => by
    obtain ⟨q, e1, e2⟩ := paired_get (i := i) t (by simpa using e)
    exact ⟨q, by simpa using e1, e2⟩
theorem ok_vLetters {f C : Addr} {fd : FuncData} (F : Fun K "letters" "Device.letters" sVLetters f fd) (DC : DevC K mg C) : FnOk P w K mg base CX0 1 f fd ["self"] (spVLetters C) := by
  refine F.ok scVLetters (fun vs H Q E h => ?_) (fun cdv A outer s H vs Q E hr h => ?_)
  · obtain ⟨v, c, l, tb, bk, D, rfl, _⟩ := h
    rfl
  · obtain ⟨v, c, l, tb, bk, D, rfl, ⟨⟨dx, hv⟩, _, ⟨xs, hl, rp⟩, _, _⟩, hlen, k⟩ := h
    refine ⟨_, pss_one (ps_ret (pe_lc (own := [("took", 1)]) (g := gName 1) (tt := tYes) rfl scVLetters.nd (pi_list (pe_fld (pv 0) rfl)) (blkOk_by (N := ["self", "took"]) (sc := defScope sVLetters) (by decide +kernel))
      (fun _ _ _ _ _ => pg_name (i := 1) scVLetters.nd rfl (Or.inl rfl)) (fun _ _ _ _ _ => pts_nil) (fun _ _ _ _ _ => pe_ix (r := rIxT K) ix_tup (pv 1) pe_int (fun _ _ => rfl)))), ?_⟩
    have lxs : xs.length = D.past.length := Paired.length rp
    refine ⟨_, rfl, v, C, dx, _, .ref l, rfl, hv, DC.cl, DC.n4, dvF_past .., l, rfl, ⟨_, SqL.of hl⟩, fun L hL => lc_it walk_list (fun i H' => Same H H' ∧ ∃ ys, H' L = some (.lst ys) ∧ Paired (LetIs H') ys ((D.past.map (·.letter)).take i)) ⟨same_new hL, [], upd_same, by rw [List.take_zero]; exact .nil⟩ (fun i H' _ q => SqL.of (q.1 _ _ hl)) (fun i x H' H'' hi q y => ?_) (fun H' q => ?_)⟩
    · obtain ⟨hH, hx⟩ := y
      have hH' := hH.symm
      subst hH'
      obtain ⟨sq, ys, hLq, rq⟩ := q
      obtain ⟨pq, hpq, a, t, bv, ex, ha, ht, _⟩ := paired_get rp hx
      subst ex
      refine ⟨rfl, ?_⟩
      refine ⟨_, rfl, a, _, 0, .ref t, rfl, rfl, SqT.of (sq _ _ ha), rfl, ys, hLq, ?_, ?_, ?_⟩
      · rw [Paired.length rq, List.length_take, List.length_map]
        exact Nat.lt_of_le_of_lt (by omega : _ ≤ 1000) (by decide)
      · intro b o hbo
        rw [upd_ne (ne_of_none hbo hL)]
        exact sq b o hbo
      · refine ⟨_, upd_same, ?_⟩
        have em : (D.past.map (·.letter))[i]? = some pq.letter := by rw [List.getElem?_map, hpq]; rfl
        rw [take_more em]
        have kp : ∀ {a xs'}, H' a = some (.tup xs') → (upd H' L (.lst (ys ++ [.ref t]))) a = some (.tup xs') := fun e => by rw [upd_ne (ne_of e hLq (fun z => nomatch z))]; exact e
        exact paired_snoc ⟨t, rfl, kp (sq _ _ ht)⟩ (Paired.mapP rq fun x y ⟨t', q1, q2⟩ => ⟨t', q1, kp q2⟩)
    · obtain ⟨sq, ys, hLq, rq⟩ := q
      rw [lxs, List.take_of_length_le (by rw [List.length_map]; exact Nat.le_refl _)] at rq
      exact k L H' sq hL ⟨ys, hLq, rq⟩
end
end HN

namespace HN
open PySem L2
def menu : List Str := ["none", "new", "read", "gone", "x", "longword", "seen", "b"]
theorem menu_words : ∀ z ∈ menu, isWord z = true := by decide +kernel
theorem menu_nd : menu.Nodup := by decide +kernel
def spWords : Sp := fun vs H Q _ => ∃ (d : Addr) (m : Nat), vs = [.ref d, .int (m : Nat)] ∧ Dr H d ∧ 1 ≤ m ∧ m ≤ 4 ∧ ∀ p ws H', Dr H' d → But d H H' → H p = none → H' p = some (.lst (ws.map V.str)) → Wds 4 ws → Q (.ref p) H'
theorem erase_map {α β : Type} (g : α → β) : ∀ (l : List α) (j : Nat), (l.map g).eraseIdx j = (l.eraseIdx j).map g
  | [], _ => rfl
  | _ :: _, 0 => rfl
  | x :: l, j + 1 => by
    show g x :: (l.map g).eraseIdx j = g x :: (l.eraseIdx j).map g
    rw [erase_map g l j]
theorem cons_erase {α : Type} : ∀ (l : List α) (j : Nat) (h : j < l.length), (l[j] :: l.eraseIdx j).Perm l
  | [], _, h => absurd h (Nat.not_lt_zero _)
  | _ :: _, 0, _ => List.Perm.refl _
  | x :: l, j + 1, h => by
    have h' : j < l.length := Nat.lt_of_succ_lt_succ h
    exact (List.Perm.swap x l[j] (l.eraseIdx j)).trans ((cons_erase l j h').cons x)
theorem dr_ne {H : Hp} {d p : Addr} (h : Dr H d) (hp : H p = none) : p ≠ d := fun z => by
  obtain ⟨a, b, c, e⟩ := h
  rw [z, e] at hp; cases hp
theorem Dr.same {H H' : Hp} {d : Addr} (h : Dr H d) (s : Same H H') : Dr H' d := let ⟨a, b, c, e⟩ := h; ⟨a, b, c, s _ _ e⟩
section
variable {P : Program} {w : World} {K : PySem.W.Frag} {mg : Str → Option Value} {base : Heap}
theorem scWords : FnScope ["_law_draws", "_law_many", "_law_menu", "_law_found", "_law_k"] ["_law_draws", "_law_many"] (defScope sWords) := ⟨rfl, rfl, rfl, by decide +kernel, rfl, by decide +kernel, by decide +kernel⟩
theorem ok_words {f fD : Addr} {fd fdD : FuncData} (D : Def K mg "_law_drawn_words" sWords ["_law_draws", "_law_many"] f fd) (T : Txt K mg) (DD : Def K mg "_law_draw" sDraw ["_law_draws", "_law_many"] fD fdD) (GD : FnOk P w K mg base CX0 1 fD fdD ["_law_draws", "_law_many"] spDraw) :
    FnOk P w K mg base CX0 2 f fd ["_law_draws", "_law_many"] spWords := by
  refine D.F.ok scWords (fun vs H Q E h => ?_) (fun cdv A outer s H vs Q E hr h => ?_)
  · obtain ⟨d, m, rfl, _⟩ := h
    rfl
  · obtain ⟨d, m, rfl, hd, h1, h4, k⟩ := h
    refine ⟨_, pss_cons (ps_set (i := 2) scWords.nd rfl (Or.inl rfl) (pe_lst (pa_cons pe_str (pa_cons pe_str (pa_cons pe_str (pa_cons pe_str (pa_cons pe_str (pa_cons pe_str (pa_cons pe_str (pa_cons pe_str pa_nil))))))))))
      (pss_cons (ps_set (i := 3) scWords.nd rfl (Or.inl rfl) (pe_lst pa_nil))
      (pss_cons (ps_for PassesOwn.never rfl (pi_range1 rfl T.range (pa_cons (pv 1) pa_nil)) (pg_name (i := 4) scWords.nd rfl (Or.inl rfl))
        (pss_one (ps_expr (pe_bm PySem.F.plainAttrs_list PySem.F.slot_list_append PySem.F.type_list_append mt_append (pv 3) (pa_cons
          (pe_bm PySem.F.plainAttrs_list PySem.F.slot_list_pop PySem.F.type_list_pop mt_popAt (pv 2) (pa_cons (pe_call GD hr (by rfl) DD.m DD.F.kp DD.b .nil pass0 (pa_cons (pv 0) (pa_cons (pe_callB call_len_seq (by rfl) T.len PySem.boot_len (pa_cons (pv 2) pa_nil)) pa_nil))) pa_nil)) pa_nil)))))
      (pss_one (ps_ret (pv 3))))), ?_⟩
    refine ⟨by show 8 ≤ sizeLine; decide, fun me hme => ⟨Nat.zero_le _, fun fo hfo => ?_⟩⟩
    have s2 := (same_new (o := .lst (menu.map V.str)) hme).trans (same_new (o := .lst []) hfo)
    have nme : me ≠ fo := fun z => by rw [z, upd_same] at hfo; cases hfo
    have e1 : (upd (upd H me (.lst (menu.map V.str))) fo (.lst [])) me = some (.lst (menu.map V.str)) := by rw [upd_ne nme, upd_same]
    have e2 : (upd (upd H me (.lst (menu.map V.str))) fo (.lst [])) fo = some (.lst []) := upd_same
    have e1' : (upd (upd H me (.lst [.str "none", .str "new", .str "read", .str "gone", .str "x", .str "longword", .str "seen", .str "b"])) fo (.lst [])) me = some (.lst (menu.map V.str)) := e1
    have hfo0 : H fo = none := by rw [upd_ne nme.symm] at hfo; exact hfo
    have nmd := dr_ne hd hme
    have nfd := dr_ne hd hfo0
    refine ⟨_, rfl, (m : Nat), rfl, by omega, by omega, for_range (lo := 0) (n := m) (fun i σ H' => ∃ (kv : Option V) (ms ws : List Str), σ = [some (.ref d), some (.int (m : Nat)), some (.ref me), some (.ref fo), kv] ∧ Dr H' d ∧ But d H H' ∧ H' me = some (.lst (ms.map V.str)) ∧ H' fo = some (.lst (ws.map V.str)) ∧ (ws ++ ms).Perm menu ∧ ws.length = i)
      ⟨none, menu, [], rfl, hd.same s2, But.of s2, e1', upd_same, List.Perm.refl _, rfl⟩ (fun i σ H' hi ⟨kv, ms, ws, hσ, hd', b', hme', hfo', pm, hl⟩ => ?_) (fun σ H' ⟨kv, ms, ws, hσ, hd', b', hme', hfo', pm, hl⟩ => ?_)⟩
    · subst hσ
      have lms : 1 ≤ ms.length ∧ ms.length ≤ 8 := by
        have := pm.length_eq
        rw [List.length_append] at this
        have e8 : menu.length = 8 := rfl
        omega
      refine ⟨_, rfl, .inl ⟨rfl, _, SqL.of hfo'⟩, ?_⟩
      refine ⟨_, rfl, .inl ⟨rfl, _, SqL.of hme'⟩, ?_⟩
      refine ⟨_, rfl, _, rfl, me, _, rfl, .inl (SqL.of hme'), d, _, rfl, hd', by rw [List.length_map]; omega, by rw [List.length_map]; omega, fun r H1 r0 r1 hd1 b1 => ?_⟩
      rw [List.length_map] at r1
      obtain ⟨j, rfl⟩ : ∃ j : Nat, r = (j : Int) := ⟨r.toNat, (Int.toNat_of_nonneg r0).symm⟩
      have hj : j < ms.length := by omega
      have hme1 := b1 _ _ nmd hme'
      have hfo1 := b1 _ _ nfd hfo'
      refine ⟨me, _, _, j, .str ms[j], rfl, rfl, hme1, by omega, by omega, ?_, ?_, ?_⟩
      · unfold seqIndex?
        rw [List.length_map]
        have z : ¬ ((j : Int) < 0) := by omega
        rw [if_neg z, if_pos (by simp; omega)]; simp
      · rw [List.getElem?_map, List.getElem?_eq_getElem hj]; rfl
      have b2 : But me H1 (upd H1 me (.lst ((ms.map V.str).eraseIdx j))) := But.upd
      refine ⟨fo, _, _, rfl, rfl, b2 _ _ nme.symm hfo1, ?_, ?_⟩
      · rw [List.length_map]; exact Nat.lt_of_le_of_lt (by omega : _ ≤ 4) (by decide)
      refine ⟨_, ms.eraseIdx j, ws ++ [ms[j]], rfl, ?_, ?_, ?_, ?_, ?_, ?_⟩
      · obtain ⟨a, b, c, e⟩ := hd1
        exact ⟨a, b, c, by rw [upd_ne nfd.symm, upd_ne nmd.symm]; exact e⟩
      · intro b o n e
        rw [upd_ne (ne_of_none e hfo0), upd_ne (ne_of_none e hme)]
        exact (b'.trans b1) b o n e
      · rw [upd_ne nme, upd_same]
        congr 2
        exact erase_map _ _ _
      · rw [upd_same, List.map_append]; rfl
      · have : (ms[j] :: ms.eraseIdx j).Perm ms := cons_erase ms j hj
        rw [List.append_assoc]
        exact ((List.Perm.append_left ws this)).trans pm
      · rw [List.length_append]; simp; omega
    · subst hσ
      refine ⟨_, rfl, ?_⟩
      have nd : (ws ++ ms).Nodup := pm.nodup_iff.mpr menu_nd
      exact k fo ws H' hd' b' hfo0 hfo' ⟨by omega, by omega, (List.nodup_append.mp nd).1, fun z hz => menu_words z (pm.mem_iff.mp (List.mem_append_left _ hz))⟩
end
end HN

namespace HN
open PySem L2
def GoodSteps (l : List (Option Int)) : Prop := 1 ≤ l.length ∧ l.length ≤ 10 ∧ ∀ s ∈ l, ∀ i, s = some i → -9 ≤ i ∧ i ≤ 9
def spEffect (K : PySem.W.Frag) : Sp := fun vs H Q _ => ∃ (d ls lp : Addr) (states : List Str) (steps : List (Option Int)), vs = [.ref d, .ref ls, .ref lp] ∧ Dr H d ∧ SqL K H ls (states.map V.str) ∧ SqL K H lp (steps.map stV) ∧ ls ≠ d ∧ lp ≠ d ∧ 1 ≤ states.length ∧ states.length ≤ 10 ∧ GoodSteps steps ∧
  ∀ p e H', Dr H' d → But d H H' → H p = none → H' p = some (.tup (effV e)) → GoodEff states e → Q (.ref p) H'
def spSteps : Sp := fun vs H Q _ => ∃ (d : Addr), vs = [.ref d] ∧ Dr H d ∧ ∀ p steps H', Dr H' d → But d H H' → H p = none → H' p = some (.lst (steps.map stV)) → GoodSteps steps → Q (.ref p) H'
theorem But.free {d : Addr} {H H' : Hp} (b : But d H H') {p : Addr} (h : H' p = none) (n : p ≠ d) : H p = none := by
  cases z : H p with
  | none => rfl
  | some o => rw [b _ _ n z] at h; cases h
section
variable {P : Program} {w : World} {K : PySem.W.Frag} {mg : Str → Option Value} {base : Heap}
theorem scEffect : FnScope ["_law_draws", "_law_states", "_law_steps", "_law_step"] ["_law_draws", "_law_states", "_law_steps"] (defScope sEffect) := ⟨rfl, rfl, rfl, by decide +kernel, rfl, by decide +kernel, by decide +kernel⟩
theorem ok_effect {f fD fP : Addr} {fd fdD fdP : FuncData} (D : Def K mg "_law_random_effect" sEffect ["_law_draws", "_law_states", "_law_steps"] f fd) (DD : Def K mg "_law_draw" sDraw ["_law_draws", "_law_many"] fD fdD) (GD : FnOk P w K mg base CX0 1 fD fdD ["_law_draws", "_law_many"] spDraw)
    (DP : Def K mg "_law_pick" sPick ["_law_draws", "_law_xs"] fP fdP) (GP : FnOk P w K mg base CX0 2 fP fdP ["_law_draws", "_law_xs"] (spPick K)) : FnOk P w K mg base CX0 3 f fd ["_law_draws", "_law_states", "_law_steps"] (spEffect K) := by
  refine D.F.ok scEffect (fun vs H Q E h => ?_) (fun cdv A outer s H vs Q E hr h => ?_)
  · obtain ⟨d, ls, lp, states, steps, rfl, _⟩ := h
    rfl
  · obtain ⟨d, ls, lp, states, steps, rfl, hd, hs, hp, ns, np, l1, l2, ⟨t1, t2, t3⟩, k⟩ := h
    refine ⟨_, pss_cons (ps_set (i := 3) scEffect.nd rfl (Or.inl rfl) (pe_call GP hr (by rfl) DP.m DP.F.kp DP.b .nil pass0 (pa_cons (pv 0) (pa_cons (pv 2) pa_nil))))
      (pss_one (ps_ret (pe_tup (pa_cons (pe_call GP hr (by rfl) DP.m DP.F.kp DP.b .nil pass0 (pa_cons (pv 0) (pa_cons (pv 1) pa_nil)))
        (pa_cons (pe_cmpR op_eq (pe_call GD (hr.mono (by decide)) (by rfl) DD.m DD.F.kp DD.b .nil pass0 (pa_cons (pv 0) (pa_cons pe_int pa_nil))) pe_int (nomark _))
        (pa_cons (pe_cmpR op_eq (pe_call GD (hr.mono (by decide)) (by rfl) DD.m DD.F.kp DD.b .nil pass0 (pa_cons (pv 0) (pa_cons pe_int pa_nil))) pe_int (nomark _)) (pa_cons (pv 3) pa_nil))))))), ?_⟩
    refine ⟨_, rfl, _, rfl, d, lp, _, rfl, hd, hp, np, by rw [List.length_map]; omega, by rw [List.length_map]; omega, fun r v H1 hv hd1 b1 => ?_⟩
    obtain ⟨st, hst, rfl⟩ : ∃ st, steps[r]? = some st ∧ v = stV st := by
      rw [List.getElem?_map] at hv
      cases e : steps[r]? with
      | none => rw [e] at hv; cases hv
      | some z => rw [e] at hv; exact ⟨z, rfl, (Option.some.inj hv).symm⟩
    refine ⟨_, rfl, _, rfl, d, ls, _, rfl, hd1, b1.seq ns hs, ns, by rw [List.length_map]; omega, by rw [List.length_map]; omega, fun r2 v2 H2 hv2 hd2 b2 => ?_⟩
    obtain ⟨nx, hnx, rfl⟩ := get_str hv2
    refine ⟨_, rfl, d, 2, rfl, hd2, by decide, by decide, fun q3 H3 _ _ hd3 b3 => ⟨rfl, ?_⟩⟩
    refine ⟨_, rfl, d, 3, rfl, hd3, by decide, by decide, fun q4 H4 _ _ hd4 b4 => ⟨rfl, ?_⟩⟩
    refine ⟨_, rfl, by show 4 ≤ sizeLine; decide, fun p hp' => ?_⟩
    have b04 := ((b1.trans b2).trans b3).trans b4
    have npd := dr_ne hd4 hp'
    refine k p ⟨nx, decide (V.int q3 = V.int 0), decide (V.int q4 = V.int 0), st⟩ _ (hd4.same (same_new hp')) (b04.trans (But.of (same_new hp'))) (b04.free hp' npd) upd_same ⟨List.mem_of_getElem? hnx, t3 st (List.mem_of_getElem? hst)⟩
theorem scSteps : FnScope ["_law_draws"] ["_law_draws"] (defScope sSteps) := ⟨rfl, rfl, rfl, by decide +kernel, rfl, by decide +kernel, by decide +kernel⟩
theorem ok_steps {f fP : Addr} {fd fdP : FuncData} (D : Def K mg "_law_step_menu" sSteps ["_law_draws"] f fd)
    (DP : Def K mg "_law_pick" sPick ["_law_draws", "_law_xs"] fP fdP) (GP : FnOk P w K mg base CX0 2 fP fdP ["_law_draws", "_law_xs"] (spPick K)) : FnOk P w K mg base CX0 3 f fd ["_law_draws"] spSteps := by
  refine D.F.ok scSteps (fun vs H Q E h => ?_) (fun cdv A outer s H vs Q E hr h => ?_)
  · obtain ⟨d, rfl, _⟩ := h
    rfl
  · obtain ⟨d, rfl, hd, k⟩ := h
    refine ⟨_, pss_one (ps_ret (pe_call GP hr (by rfl) DP.m DP.F.kp DP.b .nil pass0 (pa_cons (pv 0) (pa_cons (pe_lst (pa_cons (pe_lst (pa_cons pe_int (pa_cons pe_int (pa_cons pe_int (pa_cons (pe_un un_neg pe_int) pa_nil)))))
      (pa_cons (pe_lst (pa_cons pe_int (pa_cons pe_int (pa_cons (pe_un un_neg pe_int) (pa_cons pe_str pa_nil)))))
      (pa_cons (pe_lst (pa_cons pe_int (pa_cons pe_int (pa_cons (pe_un un_neg pe_int) (pa_cons pe_int pa_nil)))))
      (pa_cons (pe_lst (pa_cons pe_int (pa_cons pe_int (pa_cons pe_int (pa_cons (pe_un un_neg pe_int) (pa_cons pe_int (pa_cons pe_str pa_nil))))))) pa_nil))))) pa_nil)))), ?_⟩
    refine ⟨_, rfl, _, rfl, by show 4 ≤ sizeLine; decide, fun a1 h1 => ?_⟩
    refine ⟨_, rfl, by show 4 ≤ sizeLine; decide, fun a2 h2 => ?_⟩
    refine ⟨_, rfl, by show 4 ≤ sizeLine; decide, fun a3 h3 => ?_⟩
    refine ⟨_, rfl, by show 6 ≤ sizeLine; decide, fun a4 h4 => ?_⟩
    refine ⟨by show 4 ≤ sizeLine; decide, fun o ho => ?_⟩
    have e1 := same_new (o := .lst [.int 0, .int 0, .int 1, .int (-1)]) h1
    have e2 := same_new (o := .lst [.int 0, .int 1, .int (-1), .str "whole"]) h2
    have e3 := same_new (o := .lst [.int 0, .int 9, .int (-9), .int 2]) h3
    have e4 := same_new (o := .lst [.int 0, .int 1, .int 1, .int (-1), .int 3, .str "whole"]) h4
    have e5 := same_new (o := .lst [.ref a1, .ref a2, .ref a3, .ref a4]) ho
    have s5 := (((e1.trans e2).trans e3).trans e4).trans e5
    have g1 := (((e2.trans e3).trans e4).trans e5) _ _ (upd_same (H := H) (a := a1) (o := .lst [.int 0, .int 0, .int 1, .int (-1)]))
    have g2 := ((e3.trans e4).trans e5) _ _ upd_same
    have g3 := (e4.trans e5) _ _ upd_same
    have g4 := e5 _ _ upd_same
    have f2 := e1.free h2
    have f3 := (e1.trans e2).free h3
    have f4 := ((e1.trans e2).trans e3).free h4
    have fo := (((e1.trans e2).trans e3).trans e4).free ho
    refine ⟨d, o, _, rfl, hd.same s5, SqL.of upd_same, dr_ne hd fo, (by show 0 < 4; decide), (by show 4 ≤ 1000; decide), fun r v H1 hv hd1 b1 => ?_⟩
    have fin : ∀ (a : Addr) (l : List (Option Int)), H a = none → GoodSteps l → (upd _ o (.lst [.ref a1, .ref a2, .ref a3, .ref a4])) a = some (.lst (l.map stV)) → Q (.ref a) H1 := fun a l ha hl hg =>
      k a l H1 hd1 ((But.of s5).trans b1) ha (b1 _ _ (dr_ne hd ha) hg) hl
    have g : ∀ l : List (Option Int), (l.all fun s => match s with | none => true | some i => decide (-9 ≤ i) && decide (i ≤ 9)) = true → 1 ≤ l.length → l.length ≤ 10 → GoodSteps l := by
      intro l h a b
      refine ⟨a, b, fun s hs i e => ?_⟩
      have := List.all_eq_true.mp h s hs
      subst e
      simpa using this
    match r, hv with
    | 0, hv => cases hv; exact fin a1 [some 0, some 0, some 1, some (-1)] h1 (g _ (by decide) (by decide) (by decide)) g1
    | 1, hv => cases hv; exact fin a2 [some 0, some 1, some (-1), none] f2 (g _ (by decide) (by decide) (by decide)) g2
    | 2, hv => cases hv; exact fin a3 [some 0, some 9, some (-9), some 2] f3 (g _ (by decide) (by decide) (by decide)) g3
    | 3, hv => cases hv; exact fin a4 [some 0, some 1, some 1, some (-1), some 3, none] f4 (g _ (by decide) (by decide) (by decide)) g4
    | r + 4, hv => simp at hv
end
end HN

namespace HN
open PySem L2
/-! ### rows that are filled -/
def rPut (rows : List (K3 × Eff)) (k : K3) (e : Eff) : List (K3 × Eff) := if (rows.any fun p => decide (p.1 = k)) = true then rows.map (fun p => if p.1 = k then (p.1, e) else p) else rows ++ [(k, e)]
theorem RowsK.repl {H : Hp} {k : K3} {e : Eff} {a : Addr} (ha : H a = some (.tup (effV e))) : ∀ {kvs : List (List Key × V)} {rows : List (K3 × Eff)}, RowsK H kvs rows →
    RowsK H (kvs.map fun kv => if kv.1 = k3 k then (kv.1, .ref a) else kv) (rows.map fun p => if p.1 = k then (p.1, e) else p)
  | _, _, .nil => .nil
  | _, _, .cons (a := p) (b := q) h t => by
    rw [List.map_cons, List.map_cons]
    refine .cons ?_ (RowsK.repl ha t)
    by_cases c : q.1 = k
    · have c' : p.1 = k3 k := by rw [h.1, c]
      rw [if_pos c, if_pos c']
      exact ⟨h.1, a, rfl, ha⟩
    · have c' : ¬ p.1 = k3 k := by rw [h.1]; exact fun z => c (k3_inj z)
      rw [if_neg c, if_neg c']
      exact h
theorem RowsK.putAny {H : Hp} {k : K3} {e : Eff} {a : Addr} (ha : H a = some (.tup (effV e))) {kvs : List (List Key × V)} {rows : List (K3 × Eff)} (r : RowsK H kvs rows) : RowsK H (putK kvs (k3 k) (.ref a)) (rPut rows k e) := by
  have hany : (kvs.any fun kv => decide (kv.1 = k3 k)) = (rows.any fun p => decide (p.1 = k)) := by
    clear ha
    induction r with
    | nil => rfl
    | cons h t ih =>
      rw [List.any_cons, List.any_cons, ih, h.1]
      congr 1
      rw [decide_eq_decide]
      exact ⟨fun z => k3_inj z, fun z => by rw [z]⟩
  unfold putK rPut
  rw [hany]
  split
  · exact r.repl ha
  · exact r.app ha
theorem rPut_mem {rows : List (K3 × Eff)} {k : K3} {e : Eff} {p : K3 × Eff} (h : p ∈ rPut rows k e) : p ∈ rows ∨ p = (k, e) := by
  unfold rPut at h
  split at h
  · obtain ⟨q, hq, z⟩ := List.mem_map.mp h
    by_cases y : q.1 = k
    · rw [if_pos y] at z
      exact .inr (by rw [← z, y])
    · rw [if_neg y] at z
      exact .inl (z ▸ hq)
  · rcases List.mem_append.mp h with h | h
    · exact .inl h
    · exact .inr (List.mem_singleton.mp h)
theorem rPut_keys (rows : List (K3 × Eff)) (k : K3) (e : Eff) : (rPut rows k e).map (·.1) = if k ∈ rows.map (·.1) then rows.map (·.1) else rows.map (·.1) ++ [k] := by
  unfold rPut
  have hany : (rows.any fun p => decide (p.1 = k)) = decide (k ∈ rows.map (·.1)) := by
    rw [Bool.eq_iff_iff]
    simp only [List.any_eq_true, decide_eq_true_eq, List.mem_map]
  rw [hany]
  by_cases h : k ∈ rows.map (·.1)
  · rw [decide_eq_true h, if_pos rfl, if_pos h, List.map_map]
    apply List.map_congr_left
    intro p _
    show (if p.1 = k then (p.1, e) else p).1 = p.1
    split <;> rfl
  · rw [decide_eq_false h, if_neg Bool.false_ne_true, if_neg h, List.map_append]; rfl
theorem rPut_len (rows : List (K3 × Eff)) (k : K3) (e : Eff) : (rPut rows k e).length ≤ rows.length + 1 := by
  unfold rPut
  split
  · rw [List.length_map]; omega
  · rw [List.length_append]; simp
theorem rPut_nd {rows : List (K3 × Eff)} {k : K3} {e : Eff} (h : (rows.map (·.1)).Nodup) : ((rPut rows k e).map (·.1)).Nodup := by
  rw [rPut_keys]
  split
  · exact h
  · rename_i hk
    refine List.nodup_append.mpr ⟨h, by simp, fun a ha b hb => ?_⟩
    rw [List.mem_singleton] at hb
    subst hb
    exact fun z => hk (z ▸ ha)
/-- rows that are being filled, at most n -/
def Filling (states sorts : List Str) (rows : List (K3 × Eff)) (n : Nat) : Prop := (rows.map (·.1)).Nodup ∧ rows.length ≤ n ∧ ∀ p ∈ rows, GoodKey states sorts p.1 ∧ GoodEff states p.2
theorem Filling.put {states sorts : List Str} {rows : List (K3 × Eff)} {n : Nat} (f : Filling states sorts rows n) {k : K3} {e : Eff} (hk : GoodKey states sorts k) (he : GoodEff states e) : Filling states sorts (rPut rows k e) (n + 1) :=
  ⟨rPut_nd f.1, Nat.le_trans (rPut_len _ _ _) (Nat.succ_le_succ f.2.1), fun p hp => (rPut_mem hp).elim (fun h => f.2.2 p h) fun h => h ▸ ⟨hk, he⟩⟩
theorem Filling.mono {states sorts : List Str} {rows : List (K3 × Eff)} {n m : Nat} (f : Filling states sorts rows n) (h : n ≤ m) : Filling states sorts rows m := ⟨f.1, Nat.le_trans f.2.1 h, f.2.2⟩
/-- all but the draws' list and one dict stays -/
def Kp (d r : Addr) (H H' : Hp) : Prop := ∀ b o, b ≠ d → b ≠ r → H b = some o → H' b = some o
theorem Kp.refl {d r : Addr} {H : Hp} : Kp d r H H := fun _ _ _ _ e => e
theorem Kp.trans {d r : Addr} {H H1 H2 : Hp} (a : Kp d r H H1) (b : Kp d r H1 H2) : Kp d r H H2 := fun x o n1 n2 e => b x o n1 n2 (a x o n1 n2 e)
theorem Kp.but {d r : Addr} {H H' : Hp} (b : But d H H') : Kp d r H H' := fun x o n1 _ e => b x o n1 e
theorem Kp.of {d r : Addr} {H H' : Hp} (s : Same H H') : Kp d r H H' := fun x o _ _ e => s x o e
theorem RowsK.tup {H H' : Hp} (s : ∀ a xs, H a = some (.tup xs) → H' a = some (.tup xs)) {kvs : List (List Key × V)} {rows : List (K3 × Eff)} (r : RowsK H kvs rows) : RowsK H' kvs rows := Paired.mapP r fun p q ⟨h1, a, h2, h3⟩ => ⟨h1, a, h2, s _ _ h3⟩
theorem But.tups {d : Addr} {H H' : Hp} (b : But d H H') (hd : Dr H d) : ∀ a xs, H a = some (.tup xs) → H' a = some (.tup xs) := fun a xs e => by
  obtain ⟨x, y, z, h⟩ := hd
  exact b _ _ (ne_of e h (fun q => nomatch q)) e
theorem But.rowsD {d : Addr} {H H' : Hp} (b : But d H H') (hd : Dr H d) {r : Addr} {rows : List (K3 × Eff)} (h : RowsAt H r rows) : RowsAt H' r rows := by
  obtain ⟨kvs, h1, h2⟩ := h
  obtain ⟨x, y, z, hx⟩ := id hd
  exact ⟨kvs, b _ _ (ne_of h1 hx (fun q => nomatch q)) h1, h2.tup (b.tups hd)⟩
theorem But.worthsD {d : Addr} {H H' : Hp} (b : But d H H') (hd : Dr H d) {r : Addr} {ws : List (Str × Int)} (h : WorthsAt H r ws) : WorthsAt H' r ws := by
  obtain ⟨x, y, z, hx⟩ := id hd
  exact b _ _ (ne_of h hx (fun q => nomatch q)) h
theorem But.wordsD {d : Addr} {H H' : Hp} (b : But d H H') (hd : Dr H d) {r : Addr} {ws : List Str} (h : H r = some (.lst (ws.map V.str))) : H' r = some (.lst (ws.map V.str)) := by
  obtain ⟨x, y, z, hx⟩ := id hd
  refine b _ _ (ne_of h hx (fun q => ?_)) h
  injection q with q
  cases ws with
  | nil => simp at q
  | cons a l => simp at q
end HN

namespace HN
open PySem L2 PyProof.Rows PySem.Spec
/-! ### sorted texts are told by their multiset -/
def leS (a b : Str) : Prop := a.cps.toList ≤ b.cps.toList
theorem leS_of {a b : Str} (h : ltCps b.cps.toList a.cps.toList = false) : leS a b := by
  rw [ltCps_eq] at h
  exact List.not_lt.mp (of_decide_eq_false h)
theorem rising_pw : ∀ (l : List Str) (p : Str), risingS p l = true → (p :: l).Pairwise leS
  | [], p, _ => List.pairwise_singleton _ _
  | x :: r, p, h => by
    have h' : (!ltCps x.cps.toList p.cps.toList && risingS x r) = true := h
    rw [Bool.and_eq_true] at h'
    have a : leS p x := leS_of (by simpa using h'.1)
    have ih := rising_pw r x h'.2
    refine List.pairwise_cons.mpr ⟨fun y hy => ?_, ih⟩
    rcases List.mem_cons.mp hy with rfl | hy
    · exact a
    · exact List.le_trans a ((List.pairwise_cons.mp ih).1 y hy)
theorem sortedS_pw {l : List Str} (h : sortedS l = true) : l.Pairwise leS := by
  cases l with
  | nil => exact .nil
  | cons x r => exact rising_pw r x h
theorem str_ext {a b : Str} (h : a.cps.toList = b.cps.toList) : a = b := by
  cases a with
  | mk x => cases b with
    | mk y => exact congrArg Str.mk (Array.toList_inj.mp h)
theorem leS_antisymm {a b : Str} (h1 : leS a b) (h2 : leS b a) : a = b := str_ext (List.le_antisymm h1 h2)
theorem sortedS_uniq {xs ys : List Str} (p : xs.Perm ys) (hx : sortedS xs = true) (hy : sortedS ys = true) : xs = ys :=
  p.eq_of_pairwise (fun _ _ _ _ h1 h2 => leS_antisymm h1 h2) (sortedS_pw hx) (sortedS_pw hy)
def IsSort (ks ys : List Str) : Prop := ys.Perm ks ∧ sortedS ys = true
theorem CellK.keys {H : Hp} : ∀ {kvs : List (L2.Key × V)} {cells : List (Str × Cell)}, CellK H kvs cells → kvs.map (·.1) = (cells.map (·.1)).map Sum.inr
  | _, _, .nil => rfl
  | _, _, .cons h t => by rw [List.map_cons, List.map_cons, List.map_cons, h.1, CellK.keys t]
section
variable {P : Program} {w : World} {K : PySem.W.Frag} {mg : Str → Option Value} {base : Heap}
def spVMet (C : Addr) : Sp := fun vs H Q _ => ∃ (v c l tb bk : Addr) (D : Dv), vs = [.ref v] ∧ DevAt C H v c l tb bk D ∧ D.cells.length < 64 ∧ ∀ ys p, IsSort (D.cells.map (·.1)) ys → H p = none → Q (.ref p) (upd H p (.lst (ys.map V.str)))
theorem scVMet : FnScope ["self"] ["self"] (defScope sVMet) := ⟨rfl, rfl, rfl, by decide +kernel, rfl, by decide +kernel, by decide +kernel⟩
theorem ok_vMet {f C : Addr} {fd : FuncData} (F : Fun K "met" "Device.met" sVMet f fd) (T : Txt K mg) (DC : DevC K mg C) : FnOk P w K mg base CX0 1 f fd ["self"] (spVMet C) := by
  refine F.ok scVMet (fun vs H Q E h => ?_) (fun cdv A outer s H vs Q E hr h => ?_)
  · obtain ⟨v, c, l, tb, bk, D, rfl, _⟩ := h
    rfl
  · obtain ⟨v, c, l, tb, bk, D, rfl, ⟨⟨dx, hv⟩, ⟨kvs, hc, rk⟩, _, _, _⟩, hlen, k⟩ := h
    refine ⟨_, pss_one (ps_ret (pe_callB (call_sortedD rfl) (by rfl) T.sorted (by decide +kernel) (pa_cons (pe_fld (pv 0) rfl) pa_nil))), ?_⟩
    exact ⟨_, rfl, v, C, dx, _, .ref c, rfl, hv, DC.cl, DC.n2, dvF_cells .., c, kvs, D.cells.map (·.1), rfl, .inl hc, rk.keys, by rw [List.length_map]; exact hlen, fun ys p h1 h2 hp => k ys p ⟨h1, h2⟩ hp⟩
/-- a plan in the law: as a book -/
structure PlanAt (H : Hp) (pl s t r c : Addr) (B : Bk) : Prop where
  pl : H pl = some (.tup [.ref s, .ref t, .str B.first, .ref r, .ref c])
  s : H s = some (.lst (B.states.map V.str))
  t : H t = some (.lst (B.sorts.map V.str))
  r : RowsAt H r B.rows
  c : WorthsAt H c B.worths
theorem PlanAt.same {H H' : Hp} (sm : Same H H') {pl s t r c : Addr} {B : Bk} (p : PlanAt H pl s t r c B) : PlanAt H' pl s t r c B := ⟨sm _ _ p.pl, sm _ _ p.s, sm _ _ p.t, p.r.same sm, sm _ _ p.c⟩
end
end HN

namespace HN
open PySem L2
section
variable {P : Program} {w : World} {K : PySem.W.Frag} {mg : Str → Option Value} {base : Heap}
abbrev psBInit : List Str := ["self", "states", "sorts", "first", "rows", "worths"]
theorem kb_book {f : Addr} {fd : FuncData} (F : FunD K "__init__" "Book.__init__" (defArgs sBInit) (defBody sBInit) (defScope sBInit) [] [("worths", .non)] f fd) : ∃ mv : List Value, KBn K fd psBInit 5 ["worths"] (fun us ws => us ++ ws) (fun vs zs => vs ++ zs) := by
  obtain ⟨mv, h⟩ := F.kbinds0 (ps := psBInit) 5 ["worths"] [] (fun a _ c => a ++ c) (by simp) (fun q h => nomatch h) (fun h1 _ h3 => h1.append h3) (fun D doc pm an cdv ct us mv ws l1 l2 l3 => by
    match us, l1, ws, l3 with
    | [u1, u2, u3, u4, u5], _, [w1], _ => rfl)
  exact ⟨mv, h⟩
def spBookOf (K : PySem.W.Frag) (C : Addr) : Sp := fun vs H Q _ => ∃ (pl s t r c : Addr) (B : Bk), vs = [.ref pl] ∧ PlanAt H pl s t r c B ∧ GoodBk B ∧ ∀ p H', Same H H' → H p = none → BookAt C H' p (toldB B) → Q (.ref p) H'
theorem scBookOf : FnScope ["_law_plan"] ["_law_plan"] (defScope sBookOf) := ⟨rfl, rfl, rfl, by decide +kernel, rfl, by decide +kernel, by decide +kernel⟩
theorem ok_bookOf {f fB C : Addr} {fd fdB : FuncData} (D : Def K mg "_law_book_of" sBookOf ["_law_plan"] f fd) (BC : BookC K mg C) (M : Mk K C fB)
    (F : FunD K "__init__" "Book.__init__" (defArgs sBInit) (defBody sBInit) (defScope sBInit) [] [("worths", .non)] fB fdB) (G : FnOk P w K mg base CX0 6 fB fdB psBInit (spBInit K C)) : FnOk P w K mg base CX0 8 f fd ["_law_plan"] (spBookOf K C) := by
  obtain ⟨mv, hb⟩ := kb_book F
  refine D.F.ok scBookOf (fun vs H Q E h => ?_) (fun cdv A outer st H vs Q E hr h => ?_)
  · obtain ⟨pl, s, t, r, c, B, rfl, _⟩ := h
    rfl
  · obtain ⟨pl, s, t, r, c, B, rfl, hP, gB, k⟩ := h
    refine ⟨_, pss_one (ps_ret (pe_makeK M G hr (by rfl) BC.mgC hb pass0 (pa_cons (pe_ix ix_tup (pv 0) pe_int (fun _ _ => rfl)) (pa_cons (pe_ix ix_tup (pv 0) pe_int (fun _ _ => rfl)) (pa_cons (pe_ix ix_tup (pv 0) pe_int (fun _ _ => rfl)) (pa_cons (pe_ix ix_tup (pv 0) pe_int (fun _ _ => rfl)) pa_nil))))
      (pk_cons (pe_ix ix_tup (pv 0) pe_int (fun _ _ => rfl)) pk_nil))), ?_⟩
    refine ⟨_, rfl, pl, _, 0, .ref s, rfl, rfl, SqT.of hP.pl, rfl, _, rfl, pl, _, 1, .ref t, rfl, rfl, SqT.of hP.pl, rfl, _, rfl, pl, _, 2, .str B.first, rfl, rfl, SqT.of hP.pl, rfl, _, rfl, pl, _, 3, .ref r, rfl, rfl, SqT.of hP.pl, rfl, _, rfl, pl, _, 4, .ref c, rfl, rfl, SqT.of hP.pl, rfl, rfl, rfl, fun x dx hx hdx ndx => ?_⟩
    have s1 := same_new (o := .own x) hdx
    have hx1 : (upd H dx (.own x)) x = none := by rw [upd_ne (fun z => ndx z.symm)]; exact hx
    have s2 := s1.trans (same_new (o := .ins C dx []) hx1)
    refine ⟨x, dx, s, t, r, .ref c, B, rfl, upd_same, SqL.of (s2 _ _ hP.s), SqL.of (s2 _ _ hP.t), hP.r.same s2, .inr ⟨c, rfl, s2 _ _ hP.c⟩, gB, fun H' b' hB => ⟨rfl, k x H' ?_ hx hB⟩⟩
    intro b o e
    refine b' b o (fun z => by rw [z, hx] at e; cases e) (s2 _ _ e)
end
end HN

namespace HN
open PySem L2
mutual
theorem sm_self : ∀ {d : PyData}, plainD d = true → sm d d = true
  | .none, _ => by simp [sm]
  | .str x, _ => by simp [sm]
  | .bool x, _ => by simp [sm]
  | .int x, _ => by simp [sm]
  | .list xs, h => by
    rw [sm]; exact smL_self (by simpa [plainD] using h)
  | .tuple xs, h => by
    rw [sm]; exact smL_self (by simpa [plainD] using h)
  | .dict _, h => by simp [plainD] at h
theorem smL_self : ∀ {ds : List PyData}, plainDL ds = true → smL ds ds = true
  | [], _ => by simp [smL]
  | d :: ds, h => by
    rw [plainDL, Bool.and_eq_true] at h
    rw [smL, sm_self h.1, smL_self h.2]; rfl
end
theorem plainDL_of : ∀ {ds : List PyData}, (∀ d ∈ ds, plainD d = true) → plainDL ds = true
  | [], _ => rfl
  | d :: ds, h => by
    rw [plainDL, h d List.mem_cons_self, plainDL_of fun x hx => h x (List.mem_cons_of_mem _ hx)]; rfl
theorem depL_le : ∀ {ds : List PyData} {n : Nat}, (∀ d ∈ ds, dep d ≤ n) → depL ds ≤ n
  | [], n, _ => by rw [depL]; exact Nat.zero_le _
  | d :: ds, n, h => by
    have a := h d List.mem_cons_self
    have b := depL_le fun x hx => h x (List.mem_cons_of_mem d hx)
    rw [depL]; omega
theorem wdL_le : ∀ {ds : List PyData} {n : Nat}, (∀ d ∈ ds, wd d ≤ n) → wdL ds ≤ n
  | [], n, _ => by rw [wdL]; exact Nat.zero_le _
  | d :: ds, n, h => by
    have a := h d List.mem_cons_self
    have b := wdL_le fun x hx => h x (List.mem_cons_of_mem d hx)
    rw [wdL]; omega
theorem wOf_told (ws : List (Str × Int)) (z : Str) (nd : (ws.map (·.1)).Nodup) : wOf (toldW ws) z = wOf ws z := by
  induction ws with
  | nil => rfl
  | cons p ws ih =>
    rw [List.map_cons, List.nodup_cons] at nd
    have ih := ih nd.2
    unfold toldW at ih ⊢
    rw [List.filter_cons]
    by_cases h0 : p.2 = 0
    · rw [if_neg (by simp [h0])]
      rw [ih]
      unfold wOf
      rw [wAt_cons]
      by_cases c : p.1 = z
      · rw [if_pos c, wAt_none (by rw [← c]; exact nd.1), h0]; rfl
      · rw [if_neg c]
    · rw [if_pos (by simp [h0])]
      unfold wOf at ih ⊢
      rw [wAt_cons, wAt_cons]
      by_cases c : p.1 = z
      · rw [if_pos c, if_pos c]
      · rw [if_neg c, if_neg c]; exact ih
theorem rightOf_told (B : Bk) (nd : (B.worths.map (·.1)).Nodup) (cells : List (Str × Cell)) : rightOf (toldB B) cells = rightOf B cells := by
  unfold rightOf toldB
  congr 1
  apply List.map_congr_left
  intro p _
  show wOf (toldW B.worths) _ - wOf (toldW B.worths) _ = _
  rw [wOf_told _ _ nd, wOf_told _ _ nd]
theorem sortR_mem {rows : List (K3 × Eff)} {p : K3 × Eff} (h : p ∈ sortR rows) : p.1 ∈ sortK rows ∧ p.2 = (effAt rows p.1).getD (idle p.1.1) := by
  unfold sortR at h
  obtain ⟨k, hk, e⟩ := List.mem_map.mp h
  subst e
  exact ⟨hk, rfl⟩
theorem told_nd {rows : List (K3 × Eff)} (nd : (rows.map (·.1)).Nodup) : ((told rows).map (·.1)).Nodup := by
  have h : ((sortR rows).map (·.1)).Nodup := by rw [sortR_keys]; exact sortK_nd nd
  unfold told
  exact List.Nodup.sublist ((List.filter_sublist).map _) h
theorem effOf_told (rows : List (K3 × Eff)) (k : K3) (nd : (rows.map (·.1)).Nodup) : effOf (told rows) k = effOf rows k := by
  unfold effOf
  cases h : effAt (told rows) k with
  | some e =>
    have m := mem_effAt h
    unfold told at m
    have m1 := List.mem_filter.mp m
    have m2 := sortR_mem m1.1
    show e = _
    exact m2.2
  | none =>
    show idle k.1 = _
    cases h2 : effAt rows k with
    | none => rfl
    | some e =>
      show idle k.1 = e
      by_cases c : e = idle k.1
      · exact c.symm
      · exfalso
        have m := mem_effAt h2
        have hk : k ∈ sortK rows := (sortK_perm rows).mem_iff.mpr (List.mem_map_of_mem (f := (·.1)) m)
        have hs : (k, e) ∈ sortR rows := by
          unfold sortR
          refine List.mem_map.mpr ⟨k, hk, ?_⟩
          rw [h2]; rfl
        have ht : (k, e) ∈ told rows := List.mem_filter.mpr ⟨hs, by simp [c]⟩
        have := effAt_mem (told_nd nd) ht
        rw [h] at this; cases this
def cellD (c : Cell) : PyData := .tuple [.str c.1, match c.2 with | none => .none | some n => .int n]
def letD (a : Letter) : PyData := .tuple [.str a.1, .str a.2.1, .int a.2.2]
theorem dp_hv {K : PySem.W.Frag} {H : Hp} (o : Option Int) : Dp K H (hv o) (match o with | none => .none | some n => .int n) := by
  cases o with
  | none => exact .non
  | some n => exact .int n
theorem dp_cell {K : PySem.W.Frag} {H : Hp} {a : Addr} {c : Cell} (h : H a = some (.tup (cellV c))) : Dp K H (.ref a) (cellD c) := .tup (SqT.of h) (.cons (.str _) (.cons (dp_hv _) .nil))
theorem dp_back {K : PySem.W.Frag} {H : Hp} : ∀ {xs : List V} {ls : List Letter}, Paired (LetIs H) xs ls → DpAll K H xs (ls.map letD)
  | _, _, .nil => .nil
  | _, _, .cons ⟨t, h1, h2⟩ r => by
    subst h1
    exact .cons (.tup (SqT.of h2) (.cons (.str _) (.cons (.str _) (.cons (.int _) .nil)))) (dp_back r)
theorem dp_texts {K : PySem.W.Frag} {H : Hp} : ∀ (ws : List Str), DpAll K H (ws.map V.str) (ws.map PyData.str)
  | [] => .nil
  | z :: ws => .cons (.str z) (dp_texts ws)
def toldD (ys : List Str) (b e : Int) (ls : List Letter) : PyData := .list [.list (ys.map .str), .int b, .int e, .list (ls.map letD)]
theorem toldD_plain (ys : List Str) (b e : Int) (ls : List Letter) : plainD (toldD ys b e ls) = true := by
  have h1 : plainDL (ys.map PyData.str) = true := plainDL_of fun d hd => by
    obtain ⟨z, _, rfl⟩ := List.mem_map.mp hd; rfl
  have h2 : plainDL (ls.map letD) = true := plainDL_of fun d hd => by
    obtain ⟨z, _, rfl⟩ := List.mem_map.mp hd; rfl
  simp [toldD, plainD, plainDL, h1, h2]
theorem toldD_dep (ys : List Str) (b e : Int) (ls : List Letter) : dep (toldD ys b e ls) < 5 := by
  have h1 : depL (ys.map PyData.str) ≤ 0 := depL_le fun d hd => by
    obtain ⟨z, _, rfl⟩ := List.mem_map.mp hd; exact Nat.le_refl _
  have h2 : depL (ls.map letD) ≤ 1 := depL_le fun d hd => by
    obtain ⟨z, _, rfl⟩ := List.mem_map.mp hd; exact Nat.le_refl _
  simp only [toldD, dep, depL]; omega
theorem toldD_wd (ys : List Str) (b e : Int) (ls : List Letter) (l1 : ys.length ≤ 1000) (l2 : ls.length ≤ 1000) : wd (toldD ys b e ls) ≤ 1000000 := by
  have h1 : wdL (ys.map PyData.str) ≤ 0 := wdL_le fun d hd => by
    obtain ⟨z, _, rfl⟩ := List.mem_map.mp hd; exact Nat.le_refl _
  have h2 : wdL (ls.map letD) ≤ 3 := wdL_le fun d hd => by
    obtain ⟨z, _, rfl⟩ := List.mem_map.mp hd; simp [letD, wd, wdL]
  simp only [toldD, wd, wdL, List.length_map, List.length_cons, List.length_nil]; omega
end HN

namespace HN
open PySem L2
theorem IsSort.uniq {ks xs ys : List Str} (a : IsSort ks xs) (b : IsSort ks ys) : xs = ys := sortedS_uniq (a.1.trans b.1.symm) a.2 b.2
theorem Under.same' {H0 H H' : Hp} {v c l tb : Addr} (u : Under H0 H v c l tb) (s : Same H H') : Under H0 H' v c l tb := ⟨u.same.trans s, u.nv, u.nc, u.nl, u.nt⟩
theorem CellsAt.same {H H' : Hp} (s : Same H H') {n : Addr} {cells : List (Str × Cell)} (h : CellsAt H n cells) : CellsAt H' n cells := let ⟨kvs, h1, h2⟩ := h; ⟨kvs, s _ _ h1, h2.same fun a xs e => s _ _ e⟩
theorem BackAt.same {H H' : Hp} (s : Same H H') {l : Addr} {back : List Letter} (h : BackAt H l back) : BackAt H' l back := let ⟨xs, h1, h2⟩ := h; ⟨xs, s _ _ h1, Paired.mapP h2 fun _ _ ⟨t, a, b⟩ => ⟨t, a, s _ _ b⟩⟩
theorem dp_backAt {K : PySem.W.Frag} {H : Hp} {l : Addr} {back : List Letter} (h : BackAt H l back) : Dp K H (.ref l) (.list (back.map letD)) := let ⟨xs, h1, h2⟩ := h; .lst (SqL.of h1) (dp_back h2)
end HN

namespace HN
open PySem L2
theorem mergeK_wK : ∀ (ws acc : List (Str × Int)), ((acc ++ ws).map (·.1)).Nodup → mergeK (wK acc) (wK ws) = wK (acc ++ ws)
  | [], acc, _ => by rw [List.append_nil]; rfl
  | p :: ws, acc, nd => by
    have h : p.1 ∉ acc.map (·.1) := by
      rw [List.map_append, List.nodup_append] at nd
      intro hm
      exact nd.2.2 _ hm _ (by simp) rfl
    show mergeK (putK (wK acc) (Sum.inr p.1 : L2.Key) (.int p.2)) (wK ws) = _
    rw [putK_wK h]
    have e : acc ++ p :: ws = (acc ++ [(p.1, p.2)]) ++ ws := by simp
    rw [e]
    exact mergeK_wK ws _ (by rw [← e]; exact nd)
def PairAt (H : Hp) : List Addr → List (Str × Int) → Prop := Paired fun p q => H p = some (.tup [.str q.1, .int q.2])
theorem PairAt.keep {H H' : Hp} (s : ∀ a xs, H a = some (.tup xs) → H' a = some (.tup xs)) {ps : List Addr} {ws : List (Str × Int)} (h : PairAt H ps ws) : PairAt H' ps ws := Paired.mapP h fun _ _ e => s _ _ e
theorem PairAt.snoc {H : Hp} {p : Addr} {z : Str} {n : Int} (h : H p = some (.tup [.str z, .int n])) : ∀ {ps : List Addr} {ws : List (Str × Int)}, PairAt H ps ws → PairAt H (ps ++ [p]) (ws ++ [(z, n)])
  | _, _, .nil => .cons h .nil
  | _, _, .cons a t => .cons a (PairAt.snoc h t)
theorem PairAt.sq {K : PySem.W.Frag} {H : Hp} : ∀ {ps : List Addr} {ws : List (Str × Int)}, PairAt H ps ws → Paired (fun p kv => SqT K H p [kV kv.1, kv.2]) ps (wK ws)
  | _, _, .nil => .nil
  | _, _, .cons h t => .cons (SqT.of h) (PairAt.sq t)
def PlanNew (H : Hp) (d : Addr) (Q : VK) : Prop := ∀ pl s t r c B H', Dr H' d → But d H H' → PlanAt H' pl s t r c B → GoodBk B → H pl = none → H s = none → H t = none → H r = none → H c = none → Q (.ref pl) H'
theorem Kp.dr_free {d r : Addr} {H H' : Hp} (b : Kp d r H H') {p : Addr} (h : H' p = none) (nd : p ≠ d) (nr : p ≠ r) : H p = none := by
  cases z : H p with
  | none => rfl
  | some o => rw [b _ _ nd nr z] at h; cases h
def spWild : Sp := fun vs H Q _ => ∃ (d : Addr), vs = [.ref d] ∧ Dr H d ∧ PlanNew H d Q
def sorts1 : List Str := ["show"]
def sorts2 : List Str := ["show", "seen"]
def sorts3 : List Str := ["a", "b", "c"]
theorem wds1 : Wds 3 sorts1 := by unfold Wds; decide +kernel
theorem wds2 : Wds 3 sorts2 := by unfold Wds; decide +kernel
theorem wds3 : Wds 3 sorts3 := by unfold Wds; decide +kernel
section
variable {P : Program} {w : World} {K : PySem.W.Frag} {mg : Str → Option Value} {base : Heap}
abbrev nmWild : List Str := ["_law_draws", "_law_states", "_law_sorts", "_law_rows", "_law_steps", "_law_share", "_law_state", "_law_sort", "_law_age", "_law_counts"]
theorem scWild : FnScope nmWild ["_law_draws"] (defScope sWild) := ⟨rfl, rfl, rfl, by decide +kernel, rfl, by decide +kernel, by decide +kernel⟩
theorem ok_wild {f fD fP fW fE fS : Addr} {fd fdD fdP fdW fdE fdS : FuncData} (D : Def K mg "_law_wild" sWild ["_law_draws"] f fd) (T : Txt K mg)
    (DD : Def K mg "_law_draw" sDraw ["_law_draws", "_law_many"] fD fdD) (GD : FnOk P w K mg base CX0 1 fD fdD ["_law_draws", "_law_many"] spDraw)
    (DP : Def K mg "_law_pick" sPick ["_law_draws", "_law_xs"] fP fdP) (GP : FnOk P w K mg base CX0 2 fP fdP ["_law_draws", "_law_xs"] (spPick K))
    (DW : Def K mg "_law_drawn_words" sWords ["_law_draws", "_law_many"] fW fdW) (GW : FnOk P w K mg base CX0 2 fW fdW ["_law_draws", "_law_many"] spWords)
    (DE : Def K mg "_law_random_effect" sEffect ["_law_draws", "_law_states", "_law_steps"] fE fdE) (GE : FnOk P w K mg base CX0 3 fE fdE ["_law_draws", "_law_states", "_law_steps"] (spEffect K))
    (DS : Def K mg "_law_step_menu" sSteps ["_law_draws"] fS fdS) (GS : FnOk P w K mg base CX0 3 fS fdS ["_law_draws"] spSteps) :
    FnOk P w K mg base CX0 4 f fd ["_law_draws"] spWild := by
  refine D.F.ok scWild (fun vs H Q E h => ?_) (fun cdv A outer st H vs Q E hr h => ?_)
  · obtain ⟨d, rfl, _⟩ := h
    rfl
  · obtain ⟨d, rfl, hd, k⟩ := h
    have hu := hu_of hr
    refine ⟨_, pss_cons (ps_set (i := 1) scWild.nd rfl (Or.inl rfl) (pe_call GW (hr.mono (by decide)) (by rfl) DW.m DW.F.kp DW.b .nil pass0 (pa_cons (pv 0) (pa_cons (pe_op op_add pe_int (pe_call GD (hr.mono (by decide)) (by rfl) DD.m DD.F.kp DD.b .nil pass0 (pa_cons (pv 0) (pa_cons pe_int pa_nil)))) pa_nil))))
      (pss_cons (ps_set (i := 2) scWild.nd rfl (Or.inl rfl) (pe_call GP (hr.mono (by decide)) (by rfl) DP.m DP.F.kp DP.b .nil pass0 (pa_cons (pv 0) (pa_cons (pe_lst (pa_cons (pe_lst (pa_cons pe_str pa_nil)) (pa_cons (pe_lst (pa_cons pe_str (pa_cons pe_str pa_nil))) (pa_cons (pe_lst (pa_cons pe_str (pa_cons pe_str (pa_cons pe_str pa_nil)))) pa_nil)))) pa_nil))))
      (pss_cons (ps_par3 (i := 3) (j := 4) (l := 5) rfl scWild.nd rfl rfl rfl (by decide) (by decide) (by decide) rfl rfl rfl (pa_cons pe_dnewT (pa_cons (pe_call GS hr (by rfl) DS.m DS.F.kp DS.b .nil pass0 (pa_cons (pv 0) pa_nil))
          (pa_cons (pe_op op_add pe_int (pe_call GD (hr.mono (by decide)) (by rfl) DD.m DD.F.kp DD.b .nil pass0 (pa_cons (pv 0) (pa_cons pe_int pa_nil)))) pa_nil))) rfl)
      (pss_cons (ps_for PassesOwn.never rfl (pi_list (pv 1)) (pg_name (i := 6) scWild.nd rfl (Or.inl rfl))
        (pss_one (ps_for PassesOwn.never rfl (pi_list (pv 2)) (pg_name (i := 7) scWild.nd rfl (Or.inl rfl))
        (pss_one (ps_for PassesOwn.never rfl (pi_tup (pe_tup (pa_cons pe_str (pa_cons pe_str (pa_cons pe_str pa_nil))))) (pg_name (i := 8) scWild.nd rfl (Or.inl rfl))
        (pss_one (ps_if (pt_cmpR op_lt (pe_call GD (hr.mono (by decide)) (by rfl) DD.m DD.F.kp DD.b .nil pass0 (pa_cons (pv 0) (pa_cons pe_int pa_nil))) (pv 5) (nomark _))
          (pss_one (ps_asg (pe_call GE hr (by rfl) DE.m DE.F.kp DE.b .nil pass0 (pa_cons (pv 0) (pa_cons (pv 1) (pa_cons (pv 4) pa_nil)))) (pg_sub (pv 3) (pe_tup (pa_cons (pv 6) (pa_cons (pv 7) (pa_cons (pv 8) pa_nil)))) (set_dict hu)))) pss_nil)))))))
      (pss_cons (ps_set (i := 9) scWild.nd rfl (Or.inl rfl) (pe_callTy (call_dictP rfl) (by rfl) T.dict (by decide +kernel) (pa_cons (pe_lc (own := [("_law_state", 6)]) (g := gName 6) rfl scWild.nd (pi_list (pv 1))
        (blkOk_by (N := nmWild) (sc := defScope sWild) (by decide +kernel)) (fun _ _ _ _ _ => pg_name (i := 6) scWild.nd rfl (Or.inl rfl)) (fun _ _ _ _ _ => pts_one (pt_cmpR (r := rEq) op_eq (pe_call GD (hr.mono (by decide)) (by rfl) DD.m DD.F.kp DD.b .nil pass0 (pa_cons (pv 0) (pa_cons pe_int pa_nil))) pe_int (nomark _)))
        (fun _ _ _ _ _ => pe_tup (pa_cons (pv 6) (pa_cons (pe_op (r := rI0 fun i j => .int (i - j)) op_sub (pe_call GD (hr.mono (by decide)) (by rfl) DD.m DD.F.kp DD.b .nil pass0 (pa_cons (pv 0) (pa_cons pe_int pa_nil))) pe_int) pa_nil)))) pa_nil)))
      (pss_one (ps_ret (pe_tup (pa_cons (pv 1) (pa_cons (pv 2) (pa_cons (pe_call GP (hr.mono (by decide)) (by rfl) DP.m DP.F.kp DP.b .nil pass0 (pa_cons (pv 0) (pa_cons (pv 1) pa_nil))) (pa_cons (pv 3) (pa_cons (pv 9) pa_nil)))))))))))), ?_⟩
    -- states
    refine ⟨_, rfl, _, rfl, d, 4, rfl, hd, by decide, by decide, fun r1 H1 r10 r14 hd1 b1 => ⟨_, _, rfl, rfl, ?_⟩⟩
    obtain ⟨m1, rfl⟩ : ∃ m1 : Nat, r1 = (m1 : Int) := ⟨r1.toNat, (Int.toNat_of_nonneg r10).symm⟩
    refine ⟨d, 1 + m1, by rw [Int.natCast_add]; rfl, hd1, by omega, by omega, fun s states H2 hd2 b2 hs1 hs2 wss => ?_⟩
    have hs0 : H s = none := b1.free hs1 (dr_ne hd1 hs1)
    have nsd : s ≠ d := dr_ne hd hs0
    -- sorts
    refine ⟨_, rfl, by show 1 ≤ sizeLine; decide, fun a1 h1 => ?_⟩
    refine ⟨by show 2 ≤ sizeLine; decide, fun a2 h2 => ?_⟩
    refine ⟨by show 3 ≤ sizeLine; decide, fun a3 h3 => ?_⟩
    refine ⟨by show 3 ≤ sizeLine; decide, fun ao ho => ?_⟩
    have e1 := same_new (o := .lst [.str "show"]) h1
    have e2 := same_new (o := .lst [.str "show", .str "seen"]) h2
    have e3 := same_new (o := .lst [.str "a", .str "b", .str "c"]) h3
    have e4 := same_new (o := .lst [.ref a1, .ref a2, .ref a3]) ho
    have s4 := ((e1.trans e2).trans e3).trans e4
    have g1 := ((e2.trans e3).trans e4) _ _ (upd_same (H := H2) (a := a1) (o := .lst [.str "show"]))
    have g2 := (e3.trans e4) _ _ upd_same
    have g3 := e4 _ _ upd_same
    have f2 := e1.free h2
    have f3 := (e1.trans e2).free h3
    have fo := ((e1.trans e2).trans e3).free ho
    refine ⟨d, ao, _, rfl, hd2.same s4, SqL.of upd_same, dr_ne hd2 fo, (by show 0 < 3; decide), (by show 3 ≤ 1000; decide), fun i0 v0 H3 hv0 hd3 b3 => ?_⟩
    have b23 : But d H2 H3 := (But.of s4).trans b3
    obtain ⟨t, sorts, rfl, ht2, hst, wst⟩ : ∃ t sorts, v0 = .ref t ∧ H2 t = none ∧ H3 t = some (.lst (sorts.map V.str)) ∧ Wds 3 sorts := by
      match i0, hv0 with
      | 0, hv0 => cases hv0; exact ⟨a1, sorts1, rfl, h1, b3 _ _ (dr_ne hd2 h1) g1, wds1⟩
      | 1, hv0 => cases hv0; exact ⟨a2, sorts2, rfl, f2, b3 _ _ (dr_ne hd2 f2) g2, wds2⟩
      | 2, hv0 => cases hv0; exact ⟨a3, sorts3, rfl, f3, b3 _ _ (dr_ne hd2 f3) g3, wds3⟩
      | i0 + 3, hv0 => simp at hv0
    have ntd : t ≠ d := dr_ne hd2 ht2
    have b02 : But d H H2 := b1.trans b2
    have ht0 : H t = none := b02.free ht2 ntd
    have b03 : But d H H3 := b02.trans b23
    have hs3 : H3 s = some (.lst (states.map V.str)) := b23 _ _ nsd hs2
    -- rows, steps, share
    refine fun r hr0 => ?_
    have e5 := same_new (o := .dT []) hr0
    have nrd : r ≠ d := dr_ne hd3 hr0
    have hrH : H r = none := b03.free hr0 nrd
    refine ⟨_, rfl, d, rfl, hd3.same e5, fun lp steps H4 hd4 b4 hlp hps gs => ?_⟩
    refine ⟨_, rfl, d, 3, rfl, hd4, by decide, by decide, fun q H5 q0 q3 hd5 b5 => ⟨_, _, rfl, rfl, _, _, _, rfl, ?_⟩⟩
    have b35 : But d H3 H5 := ((But.of e5).trans b4).trans b5
    have hr5 : H5 r = some (.dT []) := (b4.trans b5) _ _ nrd upd_same
    have nlpd : lp ≠ d := dr_ne (hd3.same e5) hlp
    have hp5 : H5 lp = some (.lst (steps.map stV)) := b5 _ _ nlpd hps
    have hs5 := b35 _ _ nsd hs3
    have ht5 := b35 _ _ ntd hst
    have b05 := b03.trans b35
    -- the loops
    have ls4 : states.length ≤ 4 := wss.2.1
    have lt3 : sorts.length ≤ 3 := wst.2.1
    have nlr : ∀ {H' : Hp} {x : Addr} {xs : List V}, Kp d r H5 H' → H5 x = some (.lst xs) → x ≠ d → H' x = some (.lst xs) := fun kp e n => kp _ _ n (ne_of e hr5 (fun z => nomatch z)) e
    refine ⟨_, rfl, s, rfl, ⟨_, SqL.of hs5⟩, for_it walk_list (fun i σ H' => ∃ k6 k7 k8 rows, σ = [some (.ref d), some (.ref s), some (.ref t), some (.ref r), some (.ref lp), some (.int (1 + q)), k6, k7, k8, none] ∧ Dr H' d ∧ Kp d r H5 H' ∧ RowsAt H' r rows ∧ Filling states sorts rows (9 * i))
      ⟨none, none, none, [], rfl, hd5, Kp.refl, ⟨[], hr5, .nil⟩, ⟨.nil, Nat.le_refl _, fun p hp => (nomatch hp)⟩⟩ (fun i σ H' _ ⟨_, _, _, _, _, _, kp, _⟩ => SqL.of (nlr kp hs5 nsd)) (fun i x σ H' H'' hi ⟨k6, k7, k8, rows, hσ, hd', kp, hR, fl⟩ y => ?_) (fun σ H' ⟨k6, k7, k8, rows, hσ, hd', kp, hR, fl⟩ => ?_)⟩
    · obtain ⟨hH, hx⟩ := y
      have hH' := hH.symm
      subst hH'
      subst hσ
      obtain ⟨zst, hzst, rfl⟩ := get_str hx
      rw [List.length_map] at hi
      refine ⟨_, rfl, t, rfl, ⟨_, SqL.of (nlr kp ht5 ntd)⟩, for_it walk_list (fun j σ H' => ∃ k7 k8 rows, σ = [some (.ref d), some (.ref s), some (.ref t), some (.ref r), some (.ref lp), some (.int (1 + q)), some (.str zst), k7, k8, none] ∧ Dr H' d ∧ Kp d r H5 H' ∧ RowsAt H' r rows ∧ Filling states sorts rows (9 * i + 3 * j))
        ⟨k7, k8, rows, rfl, hd', kp, hR, fl⟩ (fun j σ H' _ ⟨_, _, _, _, _, kp, _⟩ => SqL.of (nlr kp ht5 ntd)) (fun j x σ H' H'' hj ⟨k7, k8, rows, hσ, hd', kp, hR, fl⟩ y => ?_) (fun σ H' ⟨k7, k8, rows, hσ, hd', kp, hR, fl⟩ => ⟨_, k7, k8, rows, hσ, hd', kp, hR, fl.mono (by rw [List.length_map]; omega)⟩)⟩
      obtain ⟨hH, hx⟩ := y
      have hH' := hH.symm
      subst hH'
      subst hσ
      obtain ⟨zso, hzso, rfl⟩ := get_str hx
      rw [List.length_map] at hj
      refine ⟨by show 3 ≤ sizeLine; decide, fun tg htg => ⟨tg, rfl, ⟨_, SqT.of upd_same⟩, ?_⟩⟩
      have etg := same_new (o := .tup [.str "newer", .str "same", .str "elder"]) htg
      have ntgd : tg ≠ d := dr_ne hd' htg
      have ntgr : tg ≠ r := fun z => by obtain ⟨kvs, h, _⟩ := hR; rw [z, h] at htg; cases htg
      have htg5 : H5 tg = none := kp.dr_free htg ntgd ntgr
      generalize hHt : upd H' tg (.tup [.str "newer", .str "same", .str "elder"]) = Ht at etg ⊢
      have htgt : Ht tg = some (.tup [.str "newer", .str "same", .str "elder"]) := by rw [← hHt]; exact upd_same
      refine for_it walk_tup (fun kk σ H'' => ∃ k8 rows, σ = [some (.ref d), some (.ref s), some (.ref t), some (.ref r), some (.ref lp), some (.int (1 + q)), some (.str zst), some (.str zso), k8, none] ∧ Dr H'' d ∧ Kp d r H5 H'' ∧ H'' tg = some (.tup [.str "newer", .str "same", .str "elder"]) ∧ RowsAt H'' r rows ∧ Filling states sorts rows (9 * i + 3 * j + kk))
        ⟨k8, rows, rfl, hd'.same etg, kp.trans (Kp.of etg), htgt, hR.same etg, fl⟩ (fun kk σ H' _ ⟨_, _, _, _, _, e, _⟩ => SqT.of e) (fun kk x σ H6 H7 hk ⟨k8, rows, hσ, hd6, kp6, htg6, hR6, fl6⟩ y => ?_) (fun σ H6 ⟨k8, rows, hσ, hd6, kp6, htg6, hR6, fl6⟩ => ⟨_, k8, rows, hσ, hd6, kp6, hR6, fl6.mono (by show 9 * i + 3 * j + 3 ≤ _; omega)⟩)
      obtain ⟨hH, hx⟩ := y
      have hH' := hH.symm
      subst hH'
      subst hσ
      obtain ⟨zag, hzag, rfl⟩ : ∃ z, ages[kk]? = some z ∧ x = .str z := get_str (ws := ages) hx
      have hk3 : kk < 3 := hk
      refine ⟨_, rfl, d, 3, rfl, hd6, by decide, by decide, fun q7 H7 _ _ hd7 b7 => ⟨_, rfl, _, _, rfl, rfl, _, rfl, ?_⟩⟩
      have hR7 := b7.rowsD hd6 hR6
      have kp7 := kp6.trans (Kp.but b7)
      have htg7 := b7 _ _ ntgd htg6
      refine ite2 (fun _ => ?_) (fun _ => ?_)
      · refine ⟨_, rfl, _, rfl, _, rfl, d, s, lp, states, steps, rfl, hd7, SqL.of (nlr kp7 hs5 nsd), SqL.of (nlr kp7 hp5 nlpd), nsd, nlpd, wss.1, by omega, gs, fun pe ef H8 hd8 b8 hpe hpe8 gef => ?_⟩
        have hR8 := b8.rowsD hd7 hR7
        refine ⟨_, rfl, _, rfl, _, rfl, _, rfl, by show 3 ≤ sizeLine; decide, fun tb htb => ?_⟩
        have e9 := same_new (o := .tup (v3 (zst, zso, zag))) htb
        have e9' : (upd H8 tb (.tup (v3 (zst, zso, zag)))) tb = _ := upd_same
        obtain ⟨kvs, hr9, rk9⟩ := hR8.same e9
        generalize hH9 : upd H8 tb (.tup (v3 (zst, zso, zag))) = H9 at e9 e9' hr9 rk9 ⊢
        have hH9' : upd H8 tb (.tup [.str zst, .str zso, .str zag]) = H9 := hH9
        rw [hH9']
        refine ⟨r, _, rfl, DPut.t (k := k3 (zst, zso, zag)) hr9 e9' ?_, ?_⟩
        · rw [rk9.len]
          exact Nat.lt_of_le_of_lt (Nat.le_trans fl6.2.1 (by omega : _ ≤ 100)) (by decide)
        have kp9 : Kp d r H5 H9 := (kp7.trans (Kp.but b8)).trans (Kp.of e9)
        have u : ∀ a xs, H9 a = some (.tup xs) → (upd H9 r (.dT (putK kvs (k3 (zst, zso, zag)) (.ref pe)))) a = some (.tup xs) := fun a xs e => by rw [upd_ne (ne_of e hr9 (fun z => nomatch z))]; exact e
        obtain ⟨x1, x2, x3, hdd⟩ := hd8
        refine ⟨_, rPut rows (zst, zso, zag) ef, rfl, ⟨x1, x2, x3, by rw [upd_ne nrd.symm]; exact e9 _ _ hdd⟩, fun b o n1 n2 e => by rw [upd_ne n2]; exact kp9 _ _ n1 n2 e, u _ _ (e9 _ _ (b8 _ _ ntgd htg7)), ⟨_, upd_same, RowsK.putAny (u _ _ (e9 _ _ hpe8)) (rk9.tup u)⟩, ?_⟩
        exact fl6.put ⟨List.mem_of_getElem? hzst, List.mem_of_getElem? hzso, List.mem_of_getElem? hzag⟩ gef
      · exact ⟨_, rows, rfl, hd7, kp7, htg7, hR7, fl6.mono (Nat.le_succ _)⟩
    · subst hσ
      have hs' := nlr kp hs5 nsd
      have ht' := nlr kp ht5 ntd
      refine ⟨_, rfl, s, rfl, ⟨_, SqL.of hs'⟩, fun L hL => lc_it walk_list (fun i H'' => ∃ ps ws, Dr H'' d ∧ But d H' H'' ∧ H'' L = some (.lst (ps.map V.ref)) ∧ PairAt H'' ps ws ∧ (ws.map (·.1)).Sublist (states.take i) ∧ ∀ p ∈ ws, -9 ≤ p.2 ∧ p.2 ≤ 9)
        ⟨[], [], hd'.same (same_new hL), But.of (same_new hL), upd_same, .nil, by simp, fun p hp => (nomatch hp)⟩ (fun i H'' _ ⟨_, _, _, b, _⟩ => SqL.of (b _ _ nsd hs')) (fun i x H8 H9 hi ⟨ps, ws, hd8, b8, hL8, pr, sl, bd⟩ y => ?_) (fun H8 ⟨ps, ws, hd8, b8, hL8, pr, sl, bd⟩ => ?_)⟩
      · obtain ⟨hH, hx⟩ := y
        have hH' := hH.symm
        subst hH'
        obtain ⟨zst, hzst, rfl⟩ := get_str hx
        have nLd : L ≠ d := dr_ne hd' hL
        have tk := take_more hzst
        have hl4 : ps.length ≤ 4 := by
          have := sl.length_le
          rw [List.length_map, List.length_take] at this
          have := Paired.length pr
          omega
        refine ⟨rfl, ?_⟩
        refine ⟨_, rfl, d, 2, rfl, hd8, by decide, by decide, fun q9 H9 _ _ hd9 b9 => ⟨rfl, _, rfl, ?_⟩⟩
        refine ite2 (fun _ => ?_) (fun _ => ?_)
        · refine ⟨_, rfl, _, rfl, d, 5, rfl, hd9, by decide, by decide, fun q10 H10 q100 q105 hd10 b10 => ⟨_, _, rfl, rfl, ?_⟩⟩
          have b90 := b9.trans b10
          refine ⟨by show 2 ≤ sizeLine; decide, fun tp htp => ⟨_, same_new htp _ _ (b90 _ _ nLd hL8), ?_, ?_⟩⟩
          · rw [List.length_map]
            exact Nat.lt_of_le_of_lt hl4 (by decide)
          have e11 := same_new (o := .tup [.str zst, .int (q10 - 2)]) htp
          have e11' : (upd H10 tp (.tup [.str zst, .int (q10 - 2)])) tp = _ := upd_same
          have hL11 := e11 _ _ (b90 _ _ nLd hL8)
          generalize hH11 : upd H10 tp (.tup [.str zst, .int (q10 - 2)]) = H11 at e11 e11' hL11 ⊢
          have u : ∀ a xs, H11 a = some (.tup xs) → (upd H11 L (.lst (ps.map V.ref ++ [.ref tp]))) a = some (.tup xs) := fun a xs e => by rw [upd_ne (ne_of e hL11 (fun z => nomatch z))]; exact e
          obtain ⟨x1, x2, x3, hdd⟩ := id hd10
          refine ⟨ps ++ [tp], ws ++ [(zst, q10 - 2)], ⟨x1, x2, x3, by rw [upd_ne nLd.symm]; exact e11 _ _ hdd⟩, fun b o n e => by rw [upd_ne (ne_of_none e hL)]; exact e11 _ _ (b90 _ _ n (b8 _ _ n e)), by rw [upd_same, List.map_append]; rfl, ?_, ?_, ?_⟩
          · exact PairAt.snoc (u _ _ e11') (pr.keep fun a xs e => u _ _ (e11 _ _ (b90.tups hd8 _ _ e)))
          · rw [tk, List.map_append]
            exact sl.append (List.Sublist.refl _)
          · intro p hp
            rcases List.mem_append.mp hp with hp | hp
            · exact bd p hp
            · rw [List.mem_singleton] at hp
              subst hp
              show -9 ≤ q10 - 2 ∧ q10 - 2 ≤ 9
              omega
        · refine ⟨ps, ws, hd9, b8.trans b9, b9 _ _ nLd hL8, pr.keep (b9.tups hd8), ?_, bd⟩
          rw [tk]
          exact sl.trans (List.sublist_append_left _ _)
      · have hws : (ws.map (·.1)).Sublist states := sl.trans (List.take_sublist _ _)
        have ndw : (ws.map (·.1)).Nodup := hws.nodup wss.2.2.1
        refine ⟨L, ps, wK ws, rfl, SqL.of hL8, pr.sq, fun c hc => ?_⟩
        have emk : mergeK [] (wK ws) = wK ws := mergeK_wK ws [] ndw
        rw [emk]
        have e12 := same_new (o := .dK (wK ws)) hc
        have ncd : c ≠ d := dr_ne hd8 hc
        have b08 : Kp d r H5 H8 := kp.trans (Kp.but b8)
        have ncr : c ≠ r := fun z => by obtain ⟨kvs, h, _⟩ := b8.rowsD hd' hR; rw [z, h] at hc; cases hc
        have hcH : H c = none := b05.free (b08.dr_free hc ncd ncr) ncd
        have ec : (upd H8 c (.dK (wK ws))) c = some (.dK (wK ws)) := upd_same
        generalize hH12 : upd H8 c (.dK (wK ws)) = H12 at e12 ec ⊢
        have b12 : But d H' H12 := b8.trans (But.of e12)
        have hd12 := hd8.same e12
        refine ⟨_, rfl, _, rfl, _, rfl, _, rfl, d, s, _, rfl, hd12, SqL.of (b12 _ _ nsd hs'), nsd, by rw [List.length_map]; exact wss.1, by rw [List.length_map]; omega, fun i1 v1 H13 hv1 hd13 b13 => ?_⟩
        obtain ⟨first, hfi, rfl⟩ := get_str hv1
        refine ⟨_, rfl, _, rfl, by show 5 ≤ sizeLine; decide, fun pl hpl => ?_⟩
        have e14 := same_new (o := .tup [.ref s, .ref t, .str first, .ref r, .ref c]) hpl
        have b014 := b12.trans (b13.trans (But.of e14))
        have kp14 : Kp d r H5 (upd H13 pl (.tup [.ref s, .ref t, .str first, .ref r, .ref c])) := kp.trans (Kp.but b014)
        have npd : pl ≠ d := dr_ne hd13 hpl
        have b0 : But d H (upd H13 pl (.tup [.ref s, .ref t, .str first, .ref r, .ref c])) := fun b o n e => kp14 _ _ n (ne_of_none e hrH) (b05 _ _ n e)
        refine k pl s t r c ⟨states, sorts, first, rows, ws⟩ _ (hd13.same e14) b0 ⟨upd_same, b014 _ _ nsd hs', b014 _ _ ntd ht', (b014.rowsD hd' hR), e14 _ _ (b13 _ _ ncd ec)⟩ ⟨wss, wst, List.mem_of_getElem? hfi, ⟨fl.1, Nat.le_trans fl.2.1 (by rw [List.length_map]; omega), fl.2.2⟩, ndw, ?_, fun p hp => ⟨hws.mem (List.mem_map_of_mem (f := (·.1)) hp), bd p hp⟩⟩ ?_ hs0 ht0 hrH hcH
        · show ws.length ≤ 100
          have := hws.length_le
          rw [List.length_map] at this
          omega
        · cases z : H pl with
          | none => rfl
          | some o =>
            have npl : H13 pl = some o := (kp.trans (Kp.but (b12.trans b13))) _ _ npd (ne_of_none z hrH) (b05 _ _ npd z)
            rw [npl] at hpl; cases hpl
end
end HN

namespace HN
open PySem L2
theorem put_step {H : Hp} {r : Addr} {rows : List (K3 × Eff)} (hR : RowsAt H r rows) {pe tb : Addr} {e : Eff} {k : K3} (hpe : H pe = some (.tup (effV e))) (htb : H tb = some (.tup (v3 k))) (hl : rows.length ≤ 1000) :
    ∃ H', DPut H r (.ref tb) (.ref pe) H' ∧ But r H H' ∧ RowsAt H' r (rPut rows k e) ∧ ∀ a xs, H a = some (.tup xs) → H' a = some (.tup xs) := by
  obtain ⟨kvs, hr, rk⟩ := hR
  have u : ∀ a xs, H a = some (.tup xs) → (upd H r (.dT (putK kvs (k3 k) (.ref pe)))) a = some (.tup xs) := fun a xs e => by rw [upd_ne (ne_of e hr (fun z => nomatch z))]; exact e
  exact ⟨_, DPut.t (k := k3 k) hr htb (by rw [rk.len]; exact Nat.lt_of_le_of_lt hl (by decide)), But.upd, ⟨_, upd_same, RowsK.putAny (u _ _ hpe) (rk.tup u)⟩, u⟩
theorem rPut_pos (rows : List (K3 × Eff)) (k : K3) (e : Eff) : 0 < (rPut rows k e).length := by
  unfold rPut
  split
  · rename_i h
    rw [List.length_map]
    obtain ⟨x, hx, _⟩ := List.any_eq_true.mp h
    exact List.length_pos_of_mem hx
  · rw [List.length_append]; simp
theorem condAny {σ : L2.St} {H : Hp} {Q : Bool → Hp → Prop} {so st : Str} (h6 : σ[6]? = some (some (.str so))) (h5 : σ[5]? = some (some (.str st))) (h : ∀ c, Q c H) :
    tAnd (tTest (tOp rNe (tVar 6) (tC (.str "show")))) (tNot (tAnd (tTest (tOp rEq (tVar 6) (tC (.str "seen")))) (tTest (tOp rEq (tVar 5) (tC (.str "none")))))) σ H Q := by
  refine ⟨_, h6, rfl, _, rfl, ?_⟩
  refine ite2 (fun _ => ?_) (fun _ => h _)
  refine ⟨_, h6, rfl, _, rfl, ?_⟩
  refine ite2 (fun _ => ?_) (fun _ => h _)
  exact ⟨_, h5, rfl, _, rfl, h _⟩
def stN : List Str := ["none", "new", "read"]
def soN : List Str := ["show", "seen", "gone"]
theorem wdsStN : Wds 4 stN := by unfold Wds; decide +kernel
theorem wdsSoN : Wds 3 soN := by unfold Wds; decide +kernel
section
variable {P : Program} {w : World} {K : PySem.W.Frag} {mg : Str → Option Value} {base : Heap}
abbrev nmNear : List Str := ["_law_draws", "_law_states", "_law_sorts", "_law_rows", "_law_counts", "_law_state", "_law_sort", "_law_behind", "_law_step", "_law_k", "_law_key"]
theorem scNear : FnScope nmNear ["_law_draws"] (defScope sNear) := ⟨rfl, rfl, rfl, by decide +kernel, rfl, by decide +kernel, by decide +kernel⟩
theorem ok_near {f fD fP fE : Addr} {fd fdD fdP fdE : FuncData} (D : Def K mg "_law_near" sNear ["_law_draws"] f fd) (T : Txt K mg)
    (DD : Def K mg "_law_draw" sDraw ["_law_draws", "_law_many"] fD fdD) (GD : FnOk P w K mg base CX0 1 fD fdD ["_law_draws", "_law_many"] spDraw)
    (DP : Def K mg "_law_pick" sPick ["_law_draws", "_law_xs"] fP fdP) (GP : FnOk P w K mg base CX0 2 fP fdP ["_law_draws", "_law_xs"] (spPick K))
    (DE : Def K mg "_law_random_effect" sEffect ["_law_draws", "_law_states", "_law_steps"] fE fdE) (GE : FnOk P w K mg base CX0 3 fE fdE ["_law_draws", "_law_states", "_law_steps"] (spEffect K)) :
    FnOk P w K mg base CX0 4 f fd ["_law_draws"] spWild := by
  refine D.F.ok scNear (fun vs H Q E h => ?_) (fun cdv A outer st H vs Q E hr h => ?_)
  · obtain ⟨d, rfl, _⟩ := h
    rfl
  · obtain ⟨d, rfl, hd, k⟩ := h
    have hu := hu_of hr
    have hun := hr.units
    refine ⟨_, pss_cons (ps_par (i := 1) (j := 2) rfl scNear.nd rfl rfl (by decide) rfl rfl (pa_cons (pe_lst (pa_cons pe_str (pa_cons pe_str (pa_cons pe_str pa_nil)))) (pa_cons (pe_lst (pa_cons pe_str (pa_cons pe_str (pa_cons pe_str pa_nil)))) pa_nil)) rfl)
      (pss_cons (ps_par (i := 3) (j := 4) rfl scNear.nd rfl rfl (by decide) rfl rfl (pa_cons pe_dnewT (pa_cons (pe_disp (pps_cons pe_str pe_int pps_nil) rfl rfl (by simp) (by decide)) pa_nil)) rfl)
      (pss_cons (ps_for PassesOwn.never rfl (pi_list (pv 1)) (pg_name (i := 5) scNear.nd rfl (Or.inl rfl))
        (pss_one (ps_for PassesOwn.never rfl (pi_tup (pe_tup (pa_cons (pe_tup (pa_cons pe_str (pa_cons pe_str pa_nil))) (pa_cons (pe_tup (pa_cons pe_str (pa_cons pe_str pa_nil))) (pa_cons (pe_tup (pa_cons pe_str (pa_cons pe_str pa_nil))) pa_nil))))) (pg_tup rfl (pgs_cons (pg_name (i := 6) scNear.nd rfl (Or.inl rfl)) (pgs_cons (pg_name (i := 7) scNear.nd rfl (Or.inl rfl)) pgs_nil)))
          (pss_cons (ps_set (i := 8) scNear.nd rfl (Or.inl rfl) (pe_op op_sub (pe_callTy call_int1 (by rfl) T.int (by decide +kernel) (pa_cons (pe_cmpR op_eq (pv 7) pe_str (nomark _)) pa_nil)) (pe_callTy call_int1 (by rfl) T.int (by decide +kernel) (pa_cons (pe_cmpR op_eq (pv 5) pe_str (nomark _)) pa_nil))))
          (pss_cons (ps_asg (pe_tup (pa_cons (pv 7) (pa_cons pe_bl (pa_cons (pe_cmpR op_eq (pv 6) pe_str (nomark _)) (pa_cons (pv 8) pa_nil))))) (pg_sub (pv 3) (pe_tup (pa_cons (pv 5) (pa_cons (pv 6) (pa_cons pe_str pa_nil)))) (set_dict hu)))
          (pss_one (ps_if (PW.pt (pw_and (pt_cmpR op_ne (pv 6) pe_str (nomark _)) (pw_and1 (pt_not (PW.pt (pw_and (pt_cmpR op_eq (pv 6) pe_str (nomark _)) (pw_and1 (pt_cmpR op_eq (pv 5) pe_str (nomark _)))))))))
            (pss_one (ps_asg (pe_tup (pa_cons (pv 7) (pa_cons pe_bl (pa_cons pe_bl (pa_cons (pv 8) pa_nil))))) (pg_sub (pv 3) (pe_tup (pa_cons (pv 5) (pa_cons (pv 6) (pa_cons pe_str pa_nil)))) (set_dict hu)))) pss_nil)))))))
      (pss_cons (ps_for PassesOwn.never rfl (pi_range1 rfl T.range (pa_cons (pe_call GD (hr.mono (by decide)) (by rfl) DD.m DD.F.kp DD.b .nil pass0 (pa_cons (pv 0) (pa_cons pe_int pa_nil))) pa_nil)) (pg_name (i := 9) scNear.nd rfl (Or.inl rfl))
        (pss_cons (ps_set (i := 10) scNear.nd rfl (Or.inl rfl) (pe_call GP (hr.mono (by decide)) (by rfl) DP.m DP.F.kp DP.b .nil pass0 (pa_cons (pv 0) (pa_cons (pe_callB (call_sorted3 rfl hun) (by rfl) T.sorted (by decide +kernel) (pa_cons (pv 3) pa_nil)) pa_nil))))
        (pss_one (ps_asg (pe_call GE hr (by rfl) DE.m DE.F.kp DE.b .nil pass0 (pa_cons (pv 0) (pa_cons (pv 1) (pa_cons (pe_lst (pa_cons pe_int (pa_cons pe_int (pa_cons (pe_un un_neg pe_int) (pa_cons pe_str pa_nil))))) pa_nil)))) (pg_sub (pv 3) (pv 10) (set_dict hu))))))
      (pss_one (ps_ret (pe_tup (pa_cons (pv 1) (pa_cons (pv 2) (pa_cons pe_str (pa_cons (pv 3) (pa_cons (pv 4) pa_nil))))))))))), ?_⟩
    -- states, sorts
    refine ⟨by show 3 ≤ sizeLine; decide, fun s hs0 => ?_⟩
    refine ⟨by show 3 ≤ sizeLine; decide, fun t ht1 => ⟨_, _, rfl, ?_⟩⟩
    have e1 := same_new (o := .lst (stN.map V.str)) hs0
    have hs1 : (upd H s (.lst (stN.map V.str))) s = _ := upd_same
    generalize hH1 : upd H s (.lst (stN.map V.str)) = H1 at e1 hs1
    have hH1' : upd H s (.lst [.str "none", .str "new", .str "read"]) = H1 := hH1
    rw [hH1'] at ht1 ⊢
    have e2 := same_new (o := .lst (soN.map V.str)) ht1
    have ht2 : (upd H1 t (.lst (soN.map V.str))) t = _ := upd_same
    have ht0 : H t = none := e1.free ht1
    generalize hH2 : upd H1 t (.lst (soN.map V.str)) = H2 at e2 ht2
    have hH2' : upd H1 t (.lst [.str "show", .str "seen", .str "gone"]) = H2 := hH2
    rw [hH2']
    have s02 := e1.trans e2
    -- rows, counts
    refine fun r hr2 => ?_
    have e3 := same_new (o := .dT []) hr2
    have hr3 : (upd H2 r (.dT [])) r = some (.dT []) := upd_same
    generalize hH3 : upd H2 r (.dT []) = H3 at e3 hr3 ⊢
    have hr0 : H r = none := s02.free hr2
    refine fun c hc3 => ?_
    have hc0 : H c = none := (s02.trans e3).free hc3
    refine ⟨upd_same, [(Sum.inr "new", .int 1)], rfl, by decide, ?_⟩
    have hup : upd (upd H3 c (.dK [])) c (.dK (mergeK [] [(Sum.inr "new", V.int 1)])) = upd H3 c (.dK (wK [("new", 1)])) := upd_upd
    rw [hup]
    have e4 := same_new (o := .dK (wK [("new", 1)])) hc3
    have hc4 : (upd H3 c (.dK (wK [("new", 1)]))) c = some (.dK (wK [("new", 1)])) := upd_same
    generalize hH4 : upd H3 c (.dK (wK [("new", 1)])) = H4 at e4 hc4 ⊢
    have s24 := e3.trans e4
    have s04 := s02.trans s24
    have hr4 := e4 _ _ hr3
    have hs4 := (e2.trans s24) _ _ hs1
    have ht4 := s24 _ _ ht2
    have hd4 := hd.same s04
    have nrd : r ≠ d := dr_ne hd hr0
    have ncd : c ≠ d := dr_ne hd hc0
    have nsd : s ≠ d := dr_ne hd hs0
    have ntd : t ≠ d := dr_ne hd ht0
    have kpl : ∀ {H' : Hp} {x : Addr} {xs : List V}, But r H4 H' → H4 x = some (.lst xs) → H' x = some (.lst xs) := fun b e => b _ _ (ne_of e hr4 (fun z => nomatch z)) e
    refine ⟨_, _, rfl, ?_⟩
    refine ⟨_, rfl, s, rfl, ⟨_, SqL.of hs4⟩, for_it walk_list (fun i σ H' => ∃ k5 k6 k7 k8 rows, σ = [some (.ref d), some (.ref s), some (.ref t), some (.ref r), some (.ref c), k5, k6, k7, k8, none, none] ∧ But r H4 H' ∧ RowsAt H' r rows ∧ Filling stN soN rows (6 * i) ∧ (0 < i → 0 < rows.length))
      ⟨none, none, none, none, [], rfl, But.refl _ _, ⟨[], hr4, .nil⟩, ⟨.nil, Nat.le_refl _, fun p hp => (nomatch hp)⟩, fun z => absurd z (Nat.lt_irrefl _)⟩ (fun i σ H' _ ⟨_, _, _, _, _, _, b, _⟩ => SqL.of (kpl b hs4)) (fun i x σ H' H'' hi ⟨k5, k6, k7, k8, rows, hσ, bb, hR, fl, po⟩ y => ?_) (fun σ H' ⟨k5, k6, k7, k8, rows, hσ, bb, hR, fl, po⟩ => ?_)⟩
    · obtain ⟨hH, hx⟩ := y
      have hH' := hH.symm
      subst hH'
      subst hσ
      obtain ⟨zst, hzst, rfl⟩ := get_str (ws := stN) hx
      have hi3 : i < 3 := hi
      -- the three pairs
      refine ⟨by show 2 ≤ sizeLine; decide, fun p1 hp1 => ?_⟩
      refine ⟨by show 2 ≤ sizeLine; decide, fun p2 hp2 => ?_⟩
      refine ⟨by show 2 ≤ sizeLine; decide, fun p3 hp3 => ?_⟩
      refine ⟨by show 3 ≤ sizeLine; decide, fun tg htg => ⟨tg, rfl, ⟨_, SqT.of upd_same⟩, ?_⟩⟩
      have f1 := same_new (o := .tup [.str "show", .str "new"]) hp1
      have f2 := same_new (o := .tup [.str "seen", .str "read"]) hp2
      have f3 := same_new (o := .tup [.str "gone", .str "none"]) hp3
      have f4 := same_new (o := .tup [.ref p1, .ref p2, .ref p3]) htg
      have g1 := ((f2.trans f3).trans f4) _ _ (upd_same (H := H') (a := p1) (o := .tup [.str "show", .str "new"]))
      have g2 := (f3.trans f4) _ _ upd_same
      have g3 := f4 _ _ upd_same
      have sf := ((f1.trans f2).trans f3).trans f4
      generalize hHt : upd (upd (upd (upd H' p1 (.tup [.str "show", .str "new"])) p2 (.tup [.str "seen", .str "read"])) p3 (.tup [.str "gone", .str "none"])) tg (.tup [.ref p1, .ref p2, .ref p3]) = Ht at f4 g1 g2 g3 sf ⊢
      have gt : Ht tg = some (.tup [.ref p1, .ref p2, .ref p3]) := by rw [← hHt]; exact upd_same
      refine for_it walk_tup (fun j σ H'' => ∃ k6 k7 k8 rows, σ = [some (.ref d), some (.ref s), some (.ref t), some (.ref r), some (.ref c), some (.str zst), k6, k7, k8, none, none] ∧ But r H4 H'' ∧ (∀ a xs, Ht a = some (.tup xs) → H'' a = some (.tup xs)) ∧ RowsAt H'' r rows ∧ Filling stN soN rows (6 * i + 2 * j) ∧ (0 < i ∨ 0 < j → 0 < rows.length))
        ⟨k6, k7, k8, rows, rfl, bb.trans (But.of sf), fun _ _ e => e, hR.same sf, fl, fun z => z.elim po (fun w => absurd w (Nat.lt_irrefl _))⟩ (fun j σ H'' _ ⟨_, _, _, _, _, _, u, _⟩ => SqT.of (u _ _ gt)) (fun j x σ H6 H7 hj ⟨k6, k7, k8, rows, hσ, b6, u6, hR6, fl6, po6⟩ y => ?_) (fun σ H6 ⟨k6, k7, k8, rows, hσ, b6, u6, hR6, fl6, po6⟩ => ⟨_, k6, k7, k8, rows, hσ, b6, hR6, fl6.mono (by show 6 * i + 2 * 3 ≤ _; omega), fun _ => po6 (.inr (by show 0 < 3; decide))⟩)
      obtain ⟨hH, hx⟩ := y
      have hH' := hH.symm
      subst hH'
      subst hσ
      have hj3 : j < 3 := hj
      obtain ⟨pj, so, be, rfl, hpj, hso, hbe⟩ : ∃ pj so be, x = .ref pj ∧ Ht pj = some (.tup [.str so, .str be]) ∧ so ∈ soN ∧ be ∈ stN := by
        match j, hx with
        | 0, hx => cases hx; exact ⟨p1, "show", "new", rfl, g1, by decide +kernel, by decide +kernel⟩
        | 1, hx => cases hx; exact ⟨p2, "seen", "read", rfl, g2, by decide +kernel, by decide +kernel⟩
        | 2, hx => cases hx; exact ⟨p3, "gone", "none", rfl, g3, by decide +kernel, by decide +kernel⟩
        | j + 3, hx => simp at hx
      refine ⟨pj, _, rfl, SqT.of (u6 _ _ hpj), rfl, _, _, rfl, _, _, rfl, rfl, ?_⟩
      refine ⟨_, rfl, rfl, .inr ⟨_, rfl, ?_⟩⟩
      refine ⟨_, rfl, rfl, .inr ⟨_, rfl, _, _, rfl, rfl, ?_⟩⟩
      obtain ⟨stp, hstp⟩ : ∃ stp : Int, stp = (if decide (V.str be = V.str "new") = true then (1 : Int) else 0) - (if decide (V.str zst = V.str "new") = true then (1 : Int) else 0) := ⟨_, rfl⟩
      have bst : -9 ≤ stp ∧ stp ≤ 9 := by rw [hstp]; split <;> split <;> decide
      dsimp only
      rw [← hstp]
      have gk : ∀ ag, ag ∈ ages → GoodKey stN soN (zst, so, ag) := fun ag h => ⟨List.mem_of_getElem? hzst, hso, h⟩
      have ge : ∀ ri, GoodEff stN ⟨be, true, ri, some stp⟩ := fun ri => ⟨hbe, fun i e => by cases e; exact bst⟩
      -- the newer row
      refine ⟨_, rfl, _, rfl, rfl, _, rfl, by show 4 ≤ sizeLine; decide, fun pe hpe => ?_⟩
      refine ⟨_, rfl, _, rfl, _, rfl, by show 3 ≤ sizeLine; decide, fun tb htb => ?_⟩
      have m1 := same_new (o := .tup (effV ⟨be, true, decide (V.str so = V.str "show"), some stp⟩)) hpe
      have m1' : (upd H6 pe (.tup (effV ⟨be, true, decide (V.str so = V.str "show"), some stp⟩))) pe = _ := upd_same
      have m2 := same_new (o := .tup (v3 (zst, so, "newer"))) htb
      have m2' : (upd (upd H6 pe (.tup (effV ⟨be, true, decide (V.str so = V.str "show"), some stp⟩))) tb (.tup (v3 (zst, so, "newer")))) tb = _ := upd_same
      have m12 := m1.trans m2
      obtain ⟨H8, p8, b8, hR8, u8⟩ := put_step (hR6.same m12) (m2 _ _ m1') m2' (Nat.le_trans fl6.2.1 (by omega))
      refine ⟨r, H8, rfl, p8, ?_⟩
      have fl8 := fl6.put (gk "newer" (by decide +kernel)) (ge (decide (V.str so = V.str "show")))
      have b08 : But r H4 H8 := (b6.trans (But.of m12)).trans b8
      have u08 : ∀ a xs, Ht a = some (.tup xs) → H8 a = some (.tup xs) := fun a xs e => u8 _ _ (m12 _ _ (u6 _ _ e))
      refine condAny rfl rfl (fun cnd => ?_)
      cases cnd with
      | false => exact ⟨_, _, _, _, rfl, b08, u08, hR8, fl8.mono (by omega), fun _ => rPut_pos _ _ _⟩
      | true =>
        refine ⟨_, rfl, _, rfl, by show 4 ≤ sizeLine; decide, fun pe2 hpe2 => ?_⟩
        refine ⟨_, rfl, _, rfl, _, rfl, by show 3 ≤ sizeLine; decide, fun tb2 htb2 => ?_⟩
        have n1 := same_new (o := .tup (effV ⟨be, true, false, some stp⟩)) hpe2
        have n1' : (upd H8 pe2 (.tup (effV ⟨be, true, false, some stp⟩))) pe2 = _ := upd_same
        have n2 := same_new (o := .tup (v3 (zst, so, "same"))) htb2
        have n2' : (upd (upd H8 pe2 (.tup (effV ⟨be, true, false, some stp⟩))) tb2 (.tup (v3 (zst, so, "same")))) tb2 = _ := upd_same
        have n12 := n1.trans n2
        obtain ⟨H9, p9, b9, hR9, u9⟩ := put_step (hR8.same n12) (n2 _ _ n1') n2' (Nat.le_trans fl8.2.1 (by omega))
        refine ⟨r, H9, rfl, p9, ?_⟩
        exact ⟨_, _, _, _, rfl, (b08.trans (But.of n12)).trans b9, fun a xs e => u9 _ _ (n12 _ _ (u08 _ _ e)), hR9, (fl8.put (gk "same" (by decide +kernel)) (ge false)).mono (by omega), fun _ => rPut_pos _ _ _⟩
    · subst hσ
      have po' : 0 < rows.length := po (by show 0 < 3; decide)
      have fl18 : Filling stN soN rows 18 := fl.mono (by show 6 * 3 ≤ 18; decide)
      have hs' := kpl bb hs4
      have ht' := kpl bb ht4
      have hc' := bb _ _ (ne_of hc4 hr4 (fun z => nomatch z)) hc4
      obtain ⟨x1, x2, x3, hdd⟩ := id hd4
      have hd' : Dr H' d := ⟨x1, x2, x3, bb _ _ nrd.symm hdd⟩
      refine ⟨_, rfl, d, 3, rfl, hd', by decide, by decide, fun q H6 q0 q3 hd6 b6 => ?_⟩
      obtain ⟨m, rfl⟩ : ∃ m : Nat, q = (m : Int) := ⟨q.toNat, (Int.toNat_of_nonneg q0).symm⟩
      have hs6 := b6 _ _ nsd hs'
      have ht6 := b6 _ _ ntd ht'
      have hc6 := b6 _ _ ncd hc'
      have hR6 := b6.rowsD hd' hR
      obtain ⟨kvr, hr6, _⟩ := id hR6
      have nlr : ∀ {H' : Hp} {x : Addr} {xs : List V}, Kp d r H6 H' → H6 x = some (.lst xs) → x ≠ d → H' x = some (.lst xs) := fun kp e n => kp _ _ n (ne_of e hr6 (fun z => nomatch z)) e
      refine ⟨(m : Nat), rfl, by omega, by omega, for_range (lo := 0) (n := m) (fun i σ H' => ∃ k9 k10 rows, σ = [some (.ref d), some (.ref s), some (.ref t), some (.ref r), some (.ref c), k5, k6, k7, k8, k9, k10] ∧ Dr H' d ∧ Kp d r H6 H' ∧ RowsAt H' r rows ∧ Filling stN soN rows (18 + i) ∧ 0 < rows.length)
        ⟨none, none, rows, rfl, hd6, Kp.refl, hR6, fl18, po'⟩ (fun i σ H' hi ⟨k9, k10, rows, hσ, hd', kp, hR, fl, po⟩ => ?_) (fun σ H' ⟨k9, k10, rows, hσ, hd', kp, hR, fl, po⟩ => ?_)⟩
      · subst hσ
        obtain ⟨kvs, hrr, rk⟩ := id hR
        refine ⟨_, rfl, _, rfl, r, kvs, rows.map (·.1), rfl, .inl hrr, rk.keys, by rw [List.length_map]; exact Nat.le_trans fl.2.1 (by omega), fun ps L hps hpt hL => ?_⟩
        have eL := same_new (o := .lst (ps.map fun b => V.ref b.1)) hL
        have hlen : ps.length = rows.length := by
          have := congrArg List.length hps
          rw [List.length_map, List.length_mergeSort, List.length_map] at this
          exact this
        have nLd : L ≠ d := dr_ne hd' hL
        refine ⟨d, L, _, rfl, hd'.same eL, SqL.of upd_same, nLd, by rw [List.length_map, hlen]; exact po, by rw [List.length_map, hlen]; exact Nat.le_trans fl.2.1 (by omega), fun i1 v1 H7 hv1 hd7 b7 => ?_⟩
        obtain ⟨pk, hpk, rfl⟩ : ∃ pk, pk ∈ ps ∧ v1 = .ref pk.1 := by
          rw [List.getElem?_map] at hv1
          cases e : ps[i1]? with
          | none => rw [e] at hv1; cases hv1
          | some z => rw [e] at hv1; exact ⟨z, List.mem_of_getElem? e, (Option.some.inj hv1).symm⟩
        have hkm : pk.2 ∈ rows.map (·.1) := by
          have : pk.2 ∈ ps.map (·.2) := List.mem_map_of_mem hpk
          rw [hps] at this
          exact (List.mergeSort_perm _ _).mem_iff.mp this
        obtain ⟨row, hrow, erow⟩ := List.mem_map.mp hkm
        have gk : GoodKey stN soN pk.2 := erow ▸ (fl.2.2 row hrow).1
        have npd : pk.1 ≠ d := fun z => by
          obtain ⟨y1, y2, y3, hy⟩ := id hd'
          have := hpt pk hpk
          rw [z, hy] at this; cases this
        have b17 : But d H' H7 := (But.of eL).trans b7
        have hk7 : H7 pk.1 = some (.tup (v3 pk.2)) := b17 _ _ npd (hpt pk hpk)
        have kp7 : Kp d r H6 H7 := kp.trans (Kp.but b17)
        -- the effect
        refine ⟨_, rfl, _, rfl, _, rfl, by show 4 ≤ sizeLine; decide, fun lp hlp => ?_⟩
        have elp := same_new (o := .lst (([some 0, some 1, some (-1), none] : List (Option Int)).map stV)) hlp
        have elp' : (upd H7 lp (.lst (([some 0, some 1, some (-1), none] : List (Option Int)).map stV))) lp = _ := upd_same
        refine ⟨d, s, lp, stN, [some 0, some 1, some (-1), none], rfl, hd7.same elp, SqL.of (elp _ _ (nlr kp7 hs6 nsd)), SqL.of elp', nsd, dr_ne hd7 hlp, by decide, by decide, ⟨by decide, by decide, ?_⟩, fun pe ef H8 hd8 b8 hpe hpe8 gef => ?_⟩
        · intro s hs i e
          subst e
          simp at hs
          omega
        have b18 : But d H' H8 := b17.trans ((But.of elp).trans b8)
        have hk8 := b8 _ _ npd (elp _ _ hk7)
        obtain ⟨H9, p9, b9, hR9, u9⟩ := put_step (b18.rowsD hd' hR) hpe8 hk8 (Nat.le_trans fl.2.1 (by omega))
        refine ⟨_, rfl, _, rfl, r, H9, rfl, p9, ?_⟩
        obtain ⟨y1, y2, y3, hy⟩ := id hd8
        exact ⟨_, _, _, rfl, ⟨y1, y2, y3, b9 _ _ nrd.symm hy⟩, fun b o n1 n2 e => b9 _ _ n2 (b18 _ _ n1 (kp _ _ n1 n2 e)), hR9, fl.put gk gef, rPut_pos _ _ _⟩
      · subst hσ
        have hs9 := nlr kp hs6 nsd
        have ht9 := nlr kp ht6 ntd
        have hc9 := kp _ _ ncd (ne_of hc6 hr6 (fun z => nomatch z)) hc6
        refine ⟨_, rfl, _, rfl, _, rfl, _, rfl, by show 5 ≤ sizeLine; decide, fun pl hpl => ?_⟩
        have e9 := same_new (o := .tup [.ref s, .ref t, .str "none", .ref r, .ref c]) hpl
        have npd : pl ≠ d := dr_ne hd' hpl
        have keep : ∀ b o, b ≠ d → H b = some o → H' b = some o := fun b o n e => kp _ _ n (ne_of_none e hr0) (b6 _ _ n (bb _ _ (ne_of_none e hr0) (s04 _ _ e)))
        refine k pl s t r c ⟨stN, soN, "none", rows, [("new", 1)]⟩ _ (hd'.same e9) (fun b o n e => e9 _ _ (keep b o n e)) ⟨upd_same, e9 _ _ hs9, e9 _ _ ht9, hR.same e9, e9 _ _ hc9⟩ ⟨wdsStN, wdsSoN, show ("none" : Str) ∈ stN by decide +kernel, ⟨fl.1, Nat.le_trans fl.2.1 (by omega), fl.2.2⟩, show ([("new" : Str)]).Nodup by decide +kernel, show 1 ≤ 100 by decide, fun p hp => ?_⟩ ?_ hs0 ht0 hr0 hc0
        · rw [List.mem_singleton] at hp
          subst hp
          exact ⟨show ("new" : Str) ∈ stN by decide +kernel, show (-9 : Int) ≤ 1 by decide, show (1 : Int) ≤ 9 by decide⟩
        · cases z : H pl with
          | none => rfl
          | some o =>
            have := keep _ _ npd z
            rw [this] at hpl; cases hpl
end
end HN

namespace HN
open PySem L2 PyProof.Rows
/-! ### list(view), view the pairs of a dict whose keys are tuples -/
theorem paired_of {α β : Type} {F : α → β → Prop} : ∀ {xs : List α} {ys : List β}, xs.length = ys.length → (∀ (j : Nat) x y, xs[j]? = some x → ys[j]? = some y → F x y) → Paired F xs ys
  | [], [], _, _ => .nil
  | [], _ :: _, h, _ => by simp at h
  | _ :: _, [], h, _ => by simp at h
  | x :: xs, y :: ys, h, f => .cons (f 0 x y rfl rfl) (paired_of (by simpa using h) fun j a b e1 e2 => f (j + 1) a b (by simpa using e1) (by simpa using e2))
def rItT : List V → Hp → VK → Prop := fun xs H Q => ∃ (p a : Addr) (kvs : List (List L2.Key × V)), xs = [.ref p] ∧ H p = some (DX.itemsO p a) ∧ H a = some (.dT kvs) ∧
  ∀ (H' : Hp) (l : Addr) (ts : List Addr), Same H H' → H l = none → H' l = some (.lst (ts.map V.ref)) → Paired (fun (t : Addr) (kv : List L2.Key × V) => ∃ kq, H' t = some (.tup [.ref kq, kv.2]) ∧ H' kq = some (.tup (kv.1.map kV))) ts kvs → Q (.ref l) H'
theorem call_listItT {X : Cx} (hc : X.calm = true) : CallR X (.type "list") rItT := by
  intro pn s τ H xs us Q I r q
  obtain ⟨p, a, kvs, rfl, hp, ha, q⟩ := q
  obtain ⟨u, rfl, rx⟩ := vals1 r
  cases rx
  have vw : s.heap.IsItemsView p a := (show ObjOk X.prog X.w H s.heap p (DX.itemsO p a) from I.hok p _ hp).1
  obtain ⟨zl, hd, ys, rel, o, es, ep, ho, hx, hdt, he, his, hn⟩ := dt_of I.hok ha
  have l1 : kvs.length = ys.length := Paired.length rel
  have l2 : es.size = ys.length := size_of_entries he
  refine PySem.W.dil_call (I.ok.hd hc) vw ⟨o, ho, hx, hdt⟩ (by omega) fun h' tk acc cp as hk hS hl hG hacc => ?_
  have I0 : Inv X pn τ H { s with heap := h', toks := tk } := I.kept hk
  have nS : H s.heap.objs.size = none := I.hok.fresh (Nat.le_refl _)
  have nA : ∀ b ∈ as, H b = none := fun b hb => I.hok.fresh (Nat.le_of_lt (hG.above b hb))
  have nd : as.Nodup := List.Pairwise.imp (fun {x y} (e : x < y) => Nat.ne_of_lt e) hG.rise
  -- the new list
  have okL : ∀ H2, ObjOk X.prog X.w H2 h' s.heap.objs.size (.lst (as.map V.ref)) := fun H2 => ⟨by rw [List.length_map]; omega, acc.toList, cp, by rw [hacc]; exact LiI.vals_refs as, by rw [Array.toArray_toList]; exact hS⟩
  have I1 := I0.take (h' := h') (t' := tk) (fun b ob _ e => e) (I.fpOk (Nat.le_refl _) nS) (okL (upd H s.heap.objs.size (.lst (as.map V.ref))))
  -- its pairs
  have pr : ∀ (j : Nat) (b : Addr), as[j]? = some b → ∃ (kv : List L2.Key × V) (kq : Addr) (y : Value), kvs[j]? = some kv ∧ H kq = some (.tup (kv.1.map kV)) ∧ RelV kv.2 y ∧ h'.get? b = some { cls := .type "tuple", data := .seq #[Value.ref kq, y] } := by
    intro j b hj
    obtain ⟨lt, hg⟩ := hG.pairs j b hj
    have ej := entry_at he j
    rw [Array.getElem?_eq_getElem lt] at ej
    cases hyj : ys[j]? with
    | none => rw [hyj] at ej; cases ej
    | some y =>
      rw [hyj] at ej
      have ee : entryOfKey (tupleKind (mixKind X.prog X.w)) y = es[j] := (Option.some.inj ej).symm
      obtain ⟨kv, hkv, r1, r2, r3⟩ := DX.pget rel hyj
      refine ⟨kv, y.2.1, y.2.2, hkv, r2, r3, ?_⟩
      rw [hg, ← ee]
      rfl
  obtain ⟨H2, I2, k2, t2⟩ := DX.takeT (P := fun b vs => ∃ (j : Nat) (kv : List L2.Key × V) (kq : Addr), as[j]? = some b ∧ kvs[j]? = some kv ∧ H kq = some (.tup (kv.1.map kV)) ∧ vs = [.ref kq, kv.2]) I as _ I1 nd fun b hb => by
    obtain ⟨j, hj⟩ := List.mem_iff_getElem?.mp hb
    obtain ⟨kv, kq, y, e1, e2, e3, e4⟩ := pr j b hj
    refine ⟨Nat.le_of_lt (hG.above b hb), ?_, _, ⟨j, kv, kq, hj, e1, e2, rfl⟩, fun H2 => ⟨by show 2 ≤ sizeLine; decide, [.ref kq, y], .cons rfl (.cons e3 .nil), ⟨_, e4, rfl, _, rfl⟩⟩⟩
    rw [upd_ne (Nat.ne_of_gt (hG.above b hb))]
    exact nA b hb
  have sm : Same H H2 := fun b ob e => k2 b ob (by rw [upd_ne (ne_of_none e nS)]; exact e)
  refine ⟨.ref s.heap.objs.size, H2, I2, rfl, q H2 _ as sm nS (k2 _ _ upd_same) (paired_of (by omega) fun j b kv hj hkv => ?_)⟩
  obtain ⟨vs, ⟨j2, kv2, kq, e1, e2, e3, rfl⟩, hb⟩ := t2 b (List.mem_of_getElem? hj)
  have ej : j2 = j := by
    have lj := (List.getElem?_eq_some_iff.mp hj).1
    exact ((List.getElem?_inj lj nd).mp (hj.trans e1.symm)).symm
  rw [ej, hkv] at e2
  cases e2
  exact ⟨kq, hb, sm _ _ e3⟩
end HN

namespace HN
open PySem L2
theorem PlanNew.but {H H1 : Hp} {d : Addr} {Q : VK} (k : PlanNew H d Q) (hd : Dr H1 d) (b : But d H H1) : PlanNew H1 d Q := fun pl s t r c B H' hd' b' hP gB f1 f2 f3 f4 f5 =>
  k pl s t r c B H' hd' (b.trans b') hP gB (b.free f1 (dr_ne hd f1)) (b.free f2 (dr_ne hd f2)) (b.free f3 (dr_ne hd f3)) (b.free f4 (dr_ne hd f4)) (b.free f5 (dr_ne hd f5))
section
variable {P : Program} {w : World} {K : PySem.W.Frag} {mg : Str → Option Value} {base : Heap}
theorem scPlan : FnScope ["_law_draws"] ["_law_draws"] (defScope sPlan) := ⟨rfl, rfl, rfl, by decide +kernel, rfl, by decide +kernel, by decide +kernel⟩
theorem ok_plan {f fD fW fN : Addr} {fd fdD fdW fdN : FuncData} (D : Def K mg "_law_some_plan" sPlan ["_law_draws"] f fd)
    (DD : Def K mg "_law_draw" sDraw ["_law_draws", "_law_many"] fD fdD) (GD : FnOk P w K mg base CX0 1 fD fdD ["_law_draws", "_law_many"] spDraw)
    (DW : Def K mg "_law_wild" sWild ["_law_draws"] fW fdW) (GW : FnOk P w K mg base CX0 4 fW fdW ["_law_draws"] spWild)
    (DN : Def K mg "_law_near" sNear ["_law_draws"] fN fdN) (GN : FnOk P w K mg base CX0 4 fN fdN ["_law_draws"] spWild) : FnOk P w K mg base CX0 5 f fd ["_law_draws"] spWild := by
  refine D.F.ok scPlan (fun vs H Q E h => ?_) (fun cdv A outer st H vs Q E hr h => ?_)
  · obtain ⟨d, rfl, _⟩ := h
    rfl
  · obtain ⟨d, rfl, hd, k⟩ := h
    refine ⟨_, pss_one (ps_ret (pe_ifExp (pt_cmpR op_eq (pe_call GD (hr.mono (by decide)) (by rfl) DD.m DD.F.kp DD.b .nil pass0 (pa_cons (pv 0) (pa_cons pe_int pa_nil))) pe_int (nomark _))
      (pe_call GW hr (by rfl) DW.m DW.F.kp DW.b .nil pass0 (pa_cons (pv 0) pa_nil)) (pe_call GN hr (by rfl) DN.m DN.F.kp DN.b .nil pass0 (pa_cons (pv 0) pa_nil)))), ?_⟩
    refine ⟨_, rfl, d, 2, rfl, hd, by decide, by decide, fun q H1 _ _ hd1 b1 => ⟨rfl, _, rfl, ?_⟩⟩
    refine ite2 (fun _ => ?_) (fun _ => ?_)
    · exact ⟨_, rfl, d, rfl, hd1, k.but hd1 b1⟩
    · exact ⟨_, rfl, d, rfl, hd1, k.but hd1 b1⟩
end
end HN

namespace HN
open PySem L2
/-- all but d -/
def del (H : Hp) (d : Addr) : Hp := fun b => if b = d then none else H b
theorem del_ne {H : Hp} {d b : Addr} {o : HO} (n : b ≠ d) (e : H b = some o) : del H d b = some o := by
  unfold del; rw [if_neg n]; exact e
theorem del_same (H : Hp) (d : Addr) : del H d d = none := by
  unfold del; rw [if_pos rfl]
theorem del_none {H : Hp} {d b : Addr} (e : H b = none) : del H d b = none := by
  unfold del; split
  · rfl
  · exact e
theorem del_sub (H : Hp) (d : Addr) : Same (del H d) H := fun b o e => by
  unfold del at e
  split at e
  · cases e
  · exact e
theorem dr_word {H : Hp} {d x : Addr} {ws : List Str} (hd : Dr H d) (h : H x = some (.lst (ws.map V.str))) : x ≠ d := fun z => by
  obtain ⟨a, b, c, e⟩ := hd
  rw [z, e] at h
  injection h with h; injection h with h
  cases ws with
  | nil => simp at h
  | cons y l => simp at h
theorem dr_tup {H : Hp} {d x : Addr} {xs : List V} (hd : Dr H d) (h : H x = some (.tup xs)) : x ≠ d := fun z => by
  obtain ⟨a, b, c, e⟩ := hd
  rw [z, e] at h; cases h
theorem RowsAt.del {H : Hp} {d r : Addr} {rows : List (K3 × Eff)} (hd : Dr H d) (h : RowsAt H r rows) : RowsAt (del H d) r rows := by
  obtain ⟨kvs, h1, h2⟩ := h
  obtain ⟨a, b, c, e⟩ := id hd
  exact ⟨kvs, del_ne (ne_of h1 e (fun z => nomatch z)) h1, h2.tup fun x xs q => del_ne (dr_tup hd q) q⟩
theorem WorthsAt.del {H : Hp} {d r : Addr} {ws : List (Str × Int)} (hd : Dr H d) (h : WorthsAt H r ws) : WorthsAt (del H d) r ws := by
  obtain ⟨a, b, c, e⟩ := id hd
  exact del_ne (ne_of (show H r = _ from h) e (fun z => nomatch z)) h
theorem PlanAt.del {H : Hp} {d pl s t r c : Addr} {B : Bk} (hd : Dr H d) (h : PlanAt H pl s t r c B) : PlanAt (del H d) pl s t r c B :=
  ⟨del_ne (dr_tup hd h.pl) h.pl, del_ne (dr_word hd h.s) h.s, del_ne (dr_word hd h.t) h.t, h.r.del hd, h.c.del hd⟩
theorem BookAt.del {C : Addr} {H : Hp} {d p : Addr} {B : Bk} (hd : Dr H d) (h : BookAt C H p B) : BookAt C (del H d) p B := by
  obtain ⟨dx, s, t, e, w, tr, h1, h2, h3, h4, h5⟩ := h
  obtain ⟨a, b, c, q⟩ := id hd
  exact ⟨dx, s, t, e, w, tr, del_ne (ne_of h1 q (fun z => nomatch z)) h1, del_ne (dr_word hd h2) h2, del_ne (dr_word hd h3) h3, h4.del hd, h5.del hd⟩
theorem DevAt.but {C v c l tb bk x : Addr} {H H' : Hp} {D : Dv} (d : DevAt C H v c l tb bk D) (b : But x H H') (nv : v ≠ x) (nc : c ≠ x) (nl : l ≠ x) (nt : tb ≠ x) (tu : ∀ a xs, H a = some (.tup xs) → H' a = some (.tup xs)) : DevAt C H' v c l tb bk D := by
  obtain ⟨⟨dx, h1⟩, ⟨kvs, h2, h3⟩, ⟨xs, h4, h5⟩, ⟨ys, h6, h7⟩, ne⟩ := d
  exact ⟨⟨dx, b _ _ nv h1⟩, ⟨kvs, b _ _ nc h2, h3.same tu⟩, ⟨xs, b _ _ nl h4, Paired.mapP h5 fun a b q => q.same tu⟩, ⟨ys, b _ _ nt h6, Paired.mapP h7 fun a b ⟨t, q1, q2⟩ => ⟨t, q1, tu _ _ q2⟩⟩, ne⟩
theorem Under.but {H0 H H' : Hp} {v c l tb x : Addr} (u : Under H0 H v c l tb) (b : But x H H') (hx : H0 x = none) : Under H0 H' v c l tb :=
  ⟨fun a o e => b _ _ (ne_of_none e hx) (u.same _ _ e), u.nv, u.nc, u.nl, u.nt⟩
theorem CellsAt.but {x n : Addr} {H H' : Hp} {cells : List (Str × Cell)} (h : CellsAt H n cells) (b : But x H H') (nx : n ≠ x) (tu : ∀ a xs, H a = some (.tup xs) → H' a = some (.tup xs)) : CellsAt H' n cells :=
  let ⟨kvs, h1, h2⟩ := h; ⟨kvs, b _ _ nx h1, h2.same tu⟩
theorem BackAt.but {x n : Addr} {H H' : Hp} {back : List Letter} (h : BackAt H n back) (b : But x H H') (nx : n ≠ x) (tu : ∀ a xs, H a = some (.tup xs) → H' a = some (.tup xs)) : BackAt H' n back :=
  let ⟨xs, h1, h2⟩ := h; ⟨xs, b _ _ nx h1, Paired.mapP h2 fun _ _ ⟨t, q1, q2⟩ => ⟨t, q1, tu _ _ q2⟩⟩
end HN

namespace HN
open PySem PySem.Spec PyProof.Rows L2
/-! ### a field of an object among several targets -/
def gFld (K : PySem.W.Frag) (f : Str) (to : TE) : TG := fun v σ H Q => to σ H fun x H1 => ∃ a C dx fs, x = .ref a ∧ H1 a = some (.ins C dx fs) ∧ Cls K C ∧ NoAttr K C f ∧ fs.length < 1000 ∧ Q σ (upd H1 a (.ins C dx (putF f v fs)))
theorem pg_fld {X : Cx} {o : Expr} {f : Str} {pos : Pos} {to : TE} (ho : PE X o to) : PG X (.Attribute o f pos) (gFld X.K f to) := by
  refine ⟨fun pins s σ H v u Q I r h => ?_⟩
  rw [assign_Attribute]
  refine wpAny_bind (wpAny_holding (thn (ho.run pins s σ H _ I h) fun ov s1 ⟨x, H1, I1, rx, a, C, dx, fs, ex, ea, c, n, l, q⟩ => ?_))
  subst ex
  obtain rfl : ov = Value.ref a := rx
  exact wpAny_bind (wpAny_standAt (wpAny_bind (wpAny_holding (setattr_ok I1 ea c n l r fun s2 I2 => wpAny_release ⟨σ, _, I2, q⟩))))
theorem paired_unsnoc {α β : Type} {F : α → β → Prop} {a : α} {b : β} : ∀ {xs : List α} {ys : List β}, Paired F (xs ++ [a]) (ys ++ [b]) → Paired F xs ys ∧ F a b
  | [], [], .cons h .nil => ⟨.nil, h⟩
  | [], y :: ys, h => by
    have := Paired.length h
    simp at this
  | x :: xs, [], h => by
    have := Paired.length h
    simp at this
  | x :: xs, y :: ys, .cons h t => let ⟨p, q⟩ := paired_unsnoc t; ⟨.cons h p, q⟩
theorem cAt_out {cells : List (Str × Cell)} {k : Str} (h : cAt cells k = none) : k ∉ cells.map (·.1) := fun m => by
  induction cells with
  | nil => cases m
  | cons q cells ih =>
    rw [cAt_cons] at h
    by_cases c : q.1 = k
    · rw [if_pos c] at h; cases h
    · rw [if_neg c] at h
      rcases List.mem_cons.mp m with e | m
      · exact c e.symm
      · exact ih h m
/-! ### undo -/
abbrev sVUndo : Stmt := inClass sDevice 11
abbrev sVAgain : Stmt := inClass sDevice 12
def cDrop (cells : List (Str × Cell)) (k : Str) : List (Str × Cell) := cells.filter fun p => decide (¬ p.1 = k)
def backCells (cells : List (Str × Cell)) (k : Str) : Option Cell → List (Str × Cell)
  | none => cDrop cells k
  | some ce => cPut cells k ce
def undoD (D : Dv) (p : Past) : Dv := ⟨backCells D.cells p.letter.1 p.before, p.badge, D.past.dropLast, D.back ++ [p.letter]⟩
def Fr4 (v c l tb : Addr) (H H' : Hp) : Prop := ∀ b o, b ≠ v → b ≠ c → b ≠ l → b ≠ tb → H b = some o → H' b = some o
theorem Under.fr4 {H0 H H' : Hp} {v c l tb : Addr} (U : Under H0 H v c l tb) (f : Fr4 v c l tb H H') : Under H0 H' v c l tb :=
  ⟨fun b o e => f b o (fun z => by rw [z, U.nv] at e; cases e) (fun z => by rw [z, U.nc] at e; cases e) (fun z => by rw [z, U.nl] at e; cases e) (fun z => by rw [z, U.nt] at e; cases e) (U.same _ _ e), U.nv, U.nc, U.nl, U.nt⟩
theorem CellK.drop {H : Hp} {k : Str} : ∀ {kvs : List (Key × V)} {cells : List (Str × Cell)}, CellK H kvs cells → CellK H (dropK kvs (Sum.inr k)) (cDrop cells k)
  | _, _, .nil => .nil
  | _, _, .cons (a := p) (b := q) h t => by
    have ih := CellK.drop (k := k) t
    unfold dropK cDrop at ih ⊢
    rw [List.filter_cons, List.filter_cons]
    by_cases c : q.1 = k
    · have c' : p.1 = (Sum.inr k : Key) := by rw [h.1, c]
      rw [decide_eq_false (fun z => z c'), decide_eq_false (fun z => z c)]
      exact ih
    · have c' : p.1 ≠ (Sum.inr k : Key) := by rw [h.1]; exact fun z => c (Sum.inr.inj z)
      rw [decide_eq_true c', decide_eq_true c]
      exact .cons h ih
def spVUndo (C : Addr) : Sp := fun vs H Q _ => ∃ (v c l tb bk : Addr) (D : Dv) (ps : List Past) (p : Past), vs = [.ref v] ∧ DevAt C H v c l tb bk D ∧ D.past = ps ++ [p] ∧ (p.before = none → p.letter.1 ∈ D.cells.map (·.1)) ∧ D.cells.length ≤ 1000 ∧ D.past.length ≤ 1000 ∧ D.back.length ≤ 1000 ∧
  ∀ H', DevAt C H' v c l tb bk (undoD D p) → Fr4 v c l tb H H' → Q (.int p.badge) H'
section
variable {P : Program} {w : World} {K : PySem.W.Frag} {mg : Str → Option Value} {base : Heap}
theorem scVUndo : FnScope ["self", "letter", "cell"] ["self"] (defScope sVUndo) := ⟨rfl, rfl, rfl, by decide +kernel, rfl, by decide +kernel, by decide +kernel⟩
theorem ok_vUndo {f C : Addr} {fd : FuncData} (F : Fun K "undo" "Device.undo" sVUndo f fd) (DC : DevC K mg C) : FnOk P w K mg base CX0 1 f fd ["self"] (spVUndo C) := by
  refine F.ok scVUndo (fun vs H Q E h => ?_) (fun cdv A outer s H vs Q E hr h => ?_)
  · obtain ⟨v, c, l, tb, bk, D, ps, p, rfl, _⟩ := h
    rfl
  · obtain ⟨v, c, l, tb, bk, ⟨cells, bd, past, back⟩, ps, p, rfl, ⟨⟨dx, hv⟩, ⟨kvs, hc, rk⟩, ⟨xs, hl, rp⟩, ⟨ys, ht, rt⟩, nlt⟩, ep, hin, z1, z2, z3, k⟩ := h
    have hu := hu_of hr
    refine ⟨_, PSs.nox (pss_cons (ps_if (pt_not (pt_truth (pe_fld (pv 0) rfl) (by intro _; rfl))) (pss_one ps_never) pss_nil)
      (pss_cons (ps_asg (pe_bm0 PySem.F.plainAttrs_list PySem.F.slot_list_pop PySem.F.type_list_pop mt_pop (pe_fld (pv 0) rfl)) (pg_tup rfl (pgs_cons (pg_name (i := 1) scVUndo.nd rfl (Or.inl rfl)) (pgs_cons (pg_name (i := 2) scVUndo.nd rfl (Or.inl rfl)) (pgs_cons (pg_fld (pv 0)) pgs_nil)))))
      (pss_cons (ps_if (pt_cmp (pc_isN (pv 2))) (pss_one (ps_ddel (pe_fld (pv 0) rfl) (pe_ix ix_tup (pv 1) pe_int (fun _ _ => rfl)))) (pss_one (ps_dput hu (pe_fld (pv 0) rfl) (pe_ix ix_tup (pv 1) pe_int (fun _ _ => rfl)) (pv 2) rfl)))
      (pss_cons (ps_expr (pe_bm PySem.F.plainAttrs_list PySem.F.slot_list_append PySem.F.type_list_append mt_append (pe_fld (pv 0) rfl) (pa_cons (pv 1) pa_nil)))
      (pss_one (ps_ret (pe_fld (pv 0) rfl))))))), ?_⟩
    have lx : xs.length = ps.length + 1 := by
      rw [Paired.length rp]
      show past.length = _
      rw [show past = ps ++ [p] from ep]; simp
    obtain ⟨xl, x, rfl⟩ : ∃ xl x, xs = xl ++ [x] := by
      rcases List.eq_nil_or_concat xs with e | ⟨a, b, e⟩
      · rw [e] at lx; simp at lx
      · exact ⟨a, b, by rw [e]; simp⟩
    have ep' : past = ps ++ [p] := ep
    subst ep'
    have rp' : Paired (PastIs H) (xl ++ [x]) (ps ++ [p]) := rp
    obtain ⟨rpl, rpx⟩ : Paired (PastIs H) xl ps ∧ PastIs H x p := paired_unsnoc rp'
    obtain ⟨pa, t, bv, rfl, hpa, htt, hbf⟩ := rpx
    refine ⟨_, rfl, v, C, dx, _, .ref l, rfl, hv, DC.cl, DC.n4, dvF_past .., true, .inl ⟨_, SqL.of hl, by simp⟩, ?_⟩
    refine iteF ?_
    refine ⟨_, rfl, v, C, dx, _, .ref l, rfl, hv, DC.cl, DC.n4, dvF_past .., .inl ⟨rfl, _, SqL.of hl⟩, l, _, .ref pa, rfl, rfl, hl, by simp, ?_⟩
    have b1 : But l H (upd H l (.lst (xl ++ [V.ref pa]).dropLast)) := But.upd
    have hl1 : upd H l (.lst (xl ++ [V.ref pa]).dropLast) l = some (.lst xl) := by rw [upd_same]; simp
    generalize hH1 : upd H l (.lst (xl ++ [V.ref pa]).dropLast) = H1 at b1 hl1 ⊢
    have tup1 : ∀ a xs', H a = some (.tup xs') → H1 a = some (.tup xs') := fun a xs' e => b1 _ _ (ne_of e hl (fun z => nomatch z)) e
    have hv1 : H1 v = _ := b1 _ _ (ne_of hv hl (fun z => nomatch z)) hv
    refine ⟨pa, _, rfl, SqT.of (tup1 _ _ hpa), rfl, _, _, rfl, _, _, rfl, _, _, rfl, _, rfl, v, C, dx, _, rfl, hv1, DC.cl, DC.n3, by show 5 < 1000; decide, rfl, ?_⟩
    rw [dvF_put]
    have b2 : But v H1 (upd H1 v (.ins C dx (dvF bk c p.badge l tb))) := But.upd
    generalize hH2 : upd H1 v (.ins C dx (dvF bk c p.badge l tb)) = H2 at b2 ⊢
    have hv2 : H2 v = some (.ins C dx (dvF bk c p.badge l tb)) := by rw [← hH2]; exact upd_same
    have tup2 : ∀ a xs', H a = some (.tup xs') → H2 a = some (.tup xs') := fun a xs' e => b2 _ _ (ne_of (tup1 _ _ e) hv1 (fun z => nomatch z)) (tup1 _ _ e)
    have hc2 : H2 c = _ := b2 _ _ (ne_of hc hv (fun z => nomatch z)) (b1 _ _ (ne_of hc hl (fun z => nomatch z)) hc)
    have hl2 : H2 l = _ := b2 _ _ (ne_of hl hv (fun z => nomatch z)) hl1
    have ht2 : H2 tb = _ := b2 _ _ (ne_of ht hv (fun z => nomatch z)) (b1 _ _ nlt.symm ht)
    have rk2 : CellK H2 kvs cells := rk.same tup2
    have fr2 : Fr4 v c l tb H H2 := fun b o n1 n2 n3 n4 e => b2 _ _ n1 (b1 _ _ n3 e)
    have nvc : v ≠ c := ne_of hv hc (fun z => nomatch z)
    have nlc : l ≠ c := ne_of hl hc (fun z => nomatch z)
    have ntc : tb ≠ c := ne_of ht hc (fun z => nomatch z)
    have tail : ∀ (kv' : List (Key × V)) (H3 : Hp), upd H2 c (.dK kv') = H3 → CellK H2 kv' (backCells cells p.letter.1 p.before) →
        H3 v = some (.ins C dx (dvF bk c p.badge l tb)) ∧ H3 tb = some (.lst ys) ∧ H3 t = some (.tup (letV p.letter)) ∧ ∀ H5, upd H3 tb (.lst (ys ++ [V.ref t])) = H5 → H5 v = some (.ins C dx (dvF bk c p.badge l tb)) ∧ Q (.int p.badge) H5 := by
      intro kv' H3 e3 rk3
      have b3 : But c H2 H3 := by rw [← e3]; exact But.upd
      have hc3 : H3 c = some (.dK kv') := by rw [← e3]; exact upd_same
      have tup3 : ∀ a xs', H2 a = some (.tup xs') → H3 a = some (.tup xs') := fun a xs' e => b3 _ _ (ne_of e hc2 (fun z => nomatch z)) e
      have hv3 : H3 v = _ := b3 _ _ nvc hv2
      have hl3 : H3 l = _ := b3 _ _ nlc hl2
      have ht3 : H3 tb = _ := b3 _ _ ntc ht2
      refine ⟨hv3, ht3, tup3 _ _ (tup2 _ _ htt), fun H5 e5 => ?_⟩
      have b5 : But tb H3 H5 := by rw [← e5]; exact But.upd
      have ht5 : H5 tb = some (.lst (ys ++ [V.ref t])) := by rw [← e5]; exact upd_same
      have tup5 : ∀ a xs', H a = some (.tup xs') → H5 a = some (.tup xs') := fun a xs' e => b5 _ _ (ne_of (tup3 _ _ (tup2 _ _ e)) ht3 (fun z => nomatch z)) (tup3 _ _ (tup2 _ _ e))
      have hv5 : H5 v = _ := b5 _ _ (ne_of hv3 ht3 (fun z => nomatch z)) hv3
      refine ⟨hv5, k H5 ⟨⟨dx, hv5⟩, ⟨kv', b5 _ _ ntc.symm hc3, rk3.same fun a xs' e => b5 _ _ (ne_of (tup3 _ _ e) ht3 (fun z => nomatch z)) (tup3 _ _ e)⟩, ⟨xl, b5 _ _ nlt hl3, ?_⟩, ⟨_, ht5, paired_snoc ⟨t, rfl, tup5 _ _ htt⟩ (Paired.mapP rt fun x y ⟨t', q1, q2⟩ => ⟨t', q1, tup5 _ _ q2⟩)⟩, nlt⟩ ?_⟩
      · show Paired (PastIs H5) xl (ps ++ [p]).dropLast
        rw [List.dropLast_concat]
        exact Paired.mapP rpl fun x y z => z.same tup5
      · exact fun b o n1 n2 n3 n4 e => b5 _ _ n4 (b3 _ _ n2 (fr2 b o n1 n2 n3 n4 e))
    have ly : ys.length < sizeLine := by
      rw [Paired.length rt]
      exact Nat.lt_of_le_of_lt z3 (by decide)
    refine ⟨_, rfl, _, rfl, ?_⟩
    cases hb : p.before with
    | none =>
      rw [hb] at hbf
      have hbf : bv = .non := hbf
      subst hbf
      refine iteT ?_
      have hk : (valV kvs (Sum.inr p.letter.1 : Key)).isSome = true := by
        have := (CellK.val (k := p.letter.1) rk2)
        cases ec : cAt cells p.letter.1 with
        | none => exact absurd (hin hb) (cAt_out ec)
        | some ce =>
          obtain ⟨ca, e1, _⟩ := this.1 ce ec
          rw [e1]; rfl
      refine ⟨_, rfl, v, C, dx, _, .ref c, rfl, hv2, DC.cl, DC.n2, dvF_cells .., _, rfl, t, _, 0, _, rfl, rfl, SqT.of (tup2 _ _ htt), rfl, c, kvs, Sum.inr p.letter.1, rfl, hc2, rfl, hk, ?_⟩
      obtain ⟨hv3, ht3, htt3, go⟩ := tail _ _ rfl (by rw [hb]; exact rk2.drop)
      refine ⟨_, rfl, v, C, dx, _, .ref tb, rfl, hv3, DC.cl, DC.n5, by kernel_rfl, .inl ⟨rfl, _, SqL.of ht3⟩, _, rfl, tb, ys, _, rfl, rfl, ht3, ly, ?_⟩
      obtain ⟨hv5, q⟩ := go _ rfl
      exact ⟨_, rfl, v, C, dx, _, .int p.badge, rfl, hv5, DC.cl, DC.n3, dvF_badge .., q⟩
    | some ce =>
      rw [hb] at hbf
      obtain ⟨ca, rfl, hca⟩ := hbf
      refine iteF ?_
      refine ⟨_, rfl, _, rfl, v, C, dx, _, .ref c, rfl, hv2, DC.cl, DC.n2, dvF_cells .., _, rfl, t, _, 0, _, rfl, rfl, SqT.of (tup2 _ _ htt), rfl, c, _, rfl, DPut.k (k := Sum.inr p.letter.1) hc2 ?_, ?_⟩
      · rw [CellK.len rk]
        exact Nat.lt_of_le_of_lt z1 (by decide)
      obtain ⟨hv3, ht3, htt3, go⟩ := tail _ _ rfl (by rw [hb]; exact rk2.put (tup2 _ _ hca))
      refine ⟨_, rfl, v, C, dx, _, .ref tb, rfl, hv3, DC.cl, DC.n5, by kernel_rfl, .inl ⟨rfl, _, SqL.of ht3⟩, _, rfl, tb, ys, _, rfl, rfl, ht3, ly, ?_⟩
      obtain ⟨hv5, q⟩ := go _ rfl
      exact ⟨_, rfl, v, C, dx, _, .int p.badge, rfl, hv5, DC.cl, DC.n3, dvF_badge .., q⟩
end
end HN

namespace HN
open PySem PySem.Spec PyProof.Rows L2
def spVAgain (C Cb : Addr) : Sp := fun vs H Q _ => ∃ (v c l tb bk : Addr) (D : Dv) (B : Bk) (H0 : Hp) (bs : List Letter) (a : Letter), vs = [.ref v] ∧ DevAt C H v c l tb bk D ∧ Under H0 H v c l tb ∧ BookAt Cb H0 bk B ∧ OkB B ∧ GoodDv B D ∧ D.past.length < 1000 ∧
  D.back = bs ++ [a] ∧ isWord a.1 = true ∧ a.2.1 ∈ B.sorts ∧ ∀ H', DevAt C H' v c l tb bk { stepD B D a with back := bs } → Under H0 H' v c l tb → Fr4 v c l tb H H' → Q (.int (stepD B D a).badge) H'
section
variable {P : Program} {w : World} {K : PySem.W.Frag} {mg : Str → Option Value} {base : Heap}
theorem scVAgain : FnScope ["self", "key", "sort", "number"] ["self"] (defScope sVAgain) := ⟨rfl, rfl, rfl, by decide +kernel, rfl, by decide +kernel, by decide +kernel⟩
theorem ok_vAgain {f C Cb fF : Addr} {fd fdF : FuncData} (F : Fun K "again" "Device.again" sVAgain f fd) (DC : DevC K mg C) (mF : Meth K C "_follow" fF) (bF : Binds K fdF ["self", "key", "sort", "number"] []) (GF : FnOk P w K mg base CX0 4 fF fdF ["self", "key", "sort", "number"] (spVFollow C Cb)) :
    FnOk P w K mg base CX0 5 f fd ["self"] (spVAgain C Cb) := by
  refine F.ok scVAgain (fun vs H Q E h => ?_) (fun cdv A outer s H vs Q E hr h => ?_)
  · obtain ⟨v, c, l, tb, bk, D, B, H0, bs, a, rfl, _⟩ := h
    rfl
  · obtain ⟨v, c, l, tb, bk, ⟨cells, bd, past, back⟩, B, H0, bs, ⟨kk, sk, nn⟩, rfl, ⟨⟨dx, hv⟩, ⟨kvs, hc, rk⟩, ⟨xs, hl, rp⟩, ⟨ys, ht, rt⟩, nlt⟩, U, hB0, ok, gd, hlp, eb, hkw, hsk, k⟩ := h
    refine ⟨_, PSs.nox (pss_cons (ps_if (pt_not (pt_truth (pe_fld (pv 0) rfl) (by intro _; rfl))) (pss_one ps_never) pss_nil)
      (pss_cons (ps_asg (pe_bm0 PySem.F.plainAttrs_list PySem.F.slot_list_pop PySem.F.type_list_pop mt_pop (pe_fld (pv 0) rfl)) (pg_tup rfl (pgs_cons (pg_name (i := 1) scVAgain.nd rfl (Or.inl rfl)) (pgs_cons (pg_name (i := 2) scVAgain.nd rfl (Or.inl rfl)) (pgs_cons (pg_name (i := 3) scVAgain.nd rfl (Or.inl rfl)) pgs_nil)))))
      (pss_cons (ps_expr (pe_meth (pv 0) DC.cl mF GF hr bF .nil pass0 (pa_cons (pv 1) (pa_cons (pv 2) (pa_cons (pv 3) pa_nil)))))
      (pss_one (ps_ret (pe_fld (pv 0) rfl)))))), ?_⟩
    have eb' : back = bs ++ [(kk, sk, nn)] := eb
    subst eb'
    have ly : ys.length = bs.length + 1 := by
      rw [Paired.length rt]; simp
    obtain ⟨yl, y, rfl⟩ : ∃ yl y, ys = yl ++ [y] := by
      rcases List.eq_nil_or_concat ys with e | ⟨a, b, e⟩
      · rw [e] at ly; simp at ly
      · exact ⟨a, b, by rw [e]; simp⟩
    obtain ⟨rtl, t, rfl, htt⟩ : Paired (LetIs H) yl bs ∧ LetIs H y (kk, sk, nn) := paired_unsnoc rt
    refine ⟨_, rfl, v, C, dx, _, .ref tb, rfl, hv, DC.cl, DC.n5, by kernel_rfl, true, .inl ⟨_, SqL.of ht, by simp⟩, ?_⟩
    refine iteF ?_
    refine ⟨_, rfl, v, C, dx, _, .ref tb, rfl, hv, DC.cl, DC.n5, by kernel_rfl, .inl ⟨rfl, _, SqL.of ht⟩, tb, _, .ref t, rfl, rfl, ht, by simp, ?_⟩
    have b1 : But tb H (upd H tb (.lst (yl ++ [V.ref t]).dropLast)) := But.upd
    have ht1 : upd H tb (.lst (yl ++ [V.ref t]).dropLast) tb = some (.lst yl) := by rw [upd_same]; simp
    generalize hH1 : upd H tb (.lst (yl ++ [V.ref t]).dropLast) = H1 at b1 ht1 ⊢
    have tup1 : ∀ a xs', H a = some (.tup xs') → H1 a = some (.tup xs') := fun a xs' e => b1 _ _ (ne_of e ht (fun z => nomatch z)) e
    have hv1 : H1 v = _ := b1 _ _ (ne_of hv ht (fun z => nomatch z)) hv
    have d1 : DevAt C H1 v c l tb bk ⟨cells, bd, past, bs⟩ := ⟨⟨dx, hv1⟩, ⟨kvs, b1 _ _ (ne_of hc ht (fun z => nomatch z)) hc, rk.same tup1⟩, ⟨xs, b1 _ _ nlt hl, Paired.mapP rp fun x y z => z.same tup1⟩, ⟨yl, ht1, Paired.mapP rtl fun x y ⟨t', q1, q2⟩ => ⟨t', q1, tup1 _ _ q2⟩⟩, nlt⟩
    have f1 : Fr4 v c l tb H H1 := fun b o n1 n2 n3 n4 e => b1 b o n4 e
    refine ⟨t, _, rfl, SqT.of (tup1 _ _ htt), rfl, _, _, rfl, _, _, rfl, _, _, rfl, rfl, ?_⟩
    refine ⟨_, rfl, v, dx, _, rfl, hv1, by kernel_rfl, _, rfl, _, rfl, _, rfl, v, c, l, tb, bk, ⟨cells, bd, past, bs⟩, B, H0, (kk, sk, nn), rfl, d1, U.fr4 f1, hB0, ok, gd, hlp, hkw, hsk, fun H2 d2 U2 fr2 => ?_⟩
    obtain ⟨dx2, hv2⟩ := d2.ob
    exact ⟨_, rfl, v, C, dx2, _, .int (stepD B ⟨cells, bd, past, bs⟩ (kk, sk, nn)).badge, rfl, hv2, DC.cl, DC.n3, dvF_badge .., k H2 d2 U2 fun b o n1 n2 n3 n4 e => fr2 b o n1 n2 n3 (f1 b o n1 n2 n3 n4 e)⟩
end
end HN

namespace HN
open PySem PySem.Spec PyProof.Rows L2
/-- an own error of one field, as the top leaves it -/
structure ErrC (P : Program) (K : PySem.W.Frag) (mg : Str → Option Value) (x qual par fld : Str) (C fI : Addr) (fdI : FuncData) : Prop where
  g : mg x = some (.ref C)
  cl : XCl P K mg fld C
  fn : XFn P K qual par fld C fI fdI
  iC : PySem.W.findIn K (.ref C) "__init__" = some (some (.ref fI))
  tI : PySem.W.typeIn K (.ref fI) = some (.type "function")
  b : Binds K fdI [("self" : Str), par] []
  xf : XfC K C
theorem ps_raiseE {X : Cx} {x qual par fld : Str} {C fI : Addr} {fdI : FuncData} {W : WX} {e : Expr} {es : List Expr} {ta : TA} {p pos po : Pos} (R : ErrC X.prog X.K X.mg x qual par fld C fI fdI) (hp : ("self" : Str) ≠ par) (hpd : (par == ("__debug__" : Str)) = false) (hpc : (par == ("__classdict__" : Str)) = false)
    (hg : Gl X x) (hr : Room 2 X.A) (hc : X.calm = true) (tk : Takes X W) (ha : PA X (e :: es) ta) (hdb : (x == ("__debug__" : Str)) = false := by decide)
    (he : starEach (e :: es) X.env = (false, eval e X.env) :: starEach es X.env := by rfl) (hpl : (backTo pos (starEach es X.env)).any (·.1) = false := by rfl) :
    PS X (.Raise (some (.Call (.Name x p) (e :: es) [] pos)) none po) (fun _ σ H => tMkO C (spXInit C fld) [] ta σ H fun cls d H' => W cls d σ H') :=
  ps_raise hc tk (pmk_oex R.cl.ox R.iC R.tI (ok_xinit R.fn R.cl hp hpd hpc) hr R.b .nil pass0 hg R.g ha hdb he hpl)
/-! ### what a device refuses -/
def ErrIs (C : Addr) (fld : Str) (x : V) (H : Hp) (E : L2.XK) : Prop := ∀ d H', Same H H' → H' d = some (.xd [(fld, x)]) → E (.ref C) (some d) H'
theorem ErrIs.same {C : Addr} {fld : Str} {x : V} {H H1 : Hp} {E : L2.XK} (h : ErrIs C fld x H E) (s : Same H H1) : ErrIs C fld x H1 E := fun d H' s' e => h d H' (s.trans s') e
theorem ErrIs.mk {C : Addr} {fld : Str} {x : V} {H : Hp} {E : L2.XK} (h : ErrIs C fld x H E) (d : Addr) (hd : H d = none) : E (.ref C) (some d) (upd H d (.xd [(fld, x)])) := h d _ (same_new hd) upd_same
def TxtD (d : PyData) : Prop := ∀ z, d = .str z → z.length ≤ 1000
def spCKx (K : PySem.W.Frag) (CK : Addr) : Sp := fun vs H Q E => ∃ (x : V) (d : PyData), vs = [x] ∧ Dp K H x d ∧ TxtD d ∧ dWord d = false ∧ ErrIs CK "key" x H E
/-- which of key, sort and number is refused first -/
inductive Bad (sorts : List Str) (CK CS CN : Addr) : V → PyData → V → PyData → V → PyData → Addr → Str → V → Prop
  | key {x y z : V} {dx dy dz : PyData} (h : dWord dx = false) : Bad sorts CK CS CN x dx y dy z dz CK "key" x
  | sort {x y z : V} {dx dy dz : PyData} (k : Str) (h : x = .str k) (hk : isWord k = true) (hs : ((sorts.map PyData.str).any fun u => PyData.eqv u dy) = false) : Bad sorts CK CS CN x dx y dy z dz CS "word" y
  | num {x y z : V} {dx dy dz : PyData} (k s : Str) (h : x = .str k) (hk : isWord k = true) (hy : y = .str s) (hs : ((sorts.map PyData.str).any fun u => PyData.eqv u dy) = true) (hz : dInt dz = false) : Bad sorts CK CS CN x dx y dy z dz CN "number" z
def spCLx (K : PySem.W.Frag) (CK CS CN : Addr) : Sp := fun vs H Q E => ∃ (x y z : V) (dx dy dz : PyData) (l : Addr) (sorts : List Str) (C : Addr) (fld : Str) (u : V), vs = [x, y, z, .ref l] ∧ Dp K H x dx ∧ TxtD dx ∧ Dp K H y dy ∧ SeqAt.shaped dy = true ∧ Dp K H z dz ∧ SqL K H l (sorts.map V.str) ∧ (∀ z ∈ sorts, isWord z = true) ∧ Bad sorts CK CS CN x dx y dy z dz C fld u ∧ ErrIs C fld u H E
theorem hu65 {A : Around} {k : Nat} (hr : Room k A) : A.units + 65 < cLine := by
  have := hr.un
  omega
theorem layStrs : ∀ {ws : List Str}, (∀ z ∈ ws, isWord z = true) → PyData.canLayAll0 (ws.map PyData.str) = true ∧ PyData.depthAll (ws.map PyData.str) = 0
  | [], _ => ⟨rfl, rfl⟩
  | z :: ws, h => by
    obtain ⟨h1, h2⟩ := layStrs fun y hy => h y (List.mem_cons_of_mem _ hy)
    have h3 : PyData.strOk z = true := by
      have hw := h z List.mem_cons_self
      simp only [isWord, Bool.and_eq_true] at hw
      have ha : Txt.isascii z = true := hw.2.2.1
      unfold Txt.isascii at ha
      unfold PyData.strOk
      simp only [Array.all_eq_true, decide_eq_true_eq] at ha ⊢
      intro i hi
      have := ha i hi
      omega
    rw [List.map_cons]
    simp [PyData.canLayAll0, PyData.depthAll, PyData.canLay0, PyData.depth, h1, h2, h3]
theorem shaped_strs {ws : List Str} (h : ∀ z ∈ ws, isWord z = true) : SeqAt.shaped (.list (ws.map PyData.str)) = true := by
  obtain ⟨h1, h2⟩ := layStrs h
  simp [SeqAt.shaped, PyData.canLay0, PyData.depth, h1, h2]
section
variable {P : Program} {w : World} {K : PySem.W.Frag} {mg : Str → Option Value} {base : Heap}
theorem ok_ckx {f fW CK fI : Addr} {fd fdW fdI : FuncData} (D : Def K mg "check_key" sCheckKey ["key"] f fd) (DW : Def K mg "is_word" sIsWord ["thing"] fW fdW) (GW : FnOk P w K mg base CX0 1 fW fdW ["thing"] (spIsWord K))
    (R : ErrC P K mg "BadKey" "BadKey.__init__" "key" "key" CK fI fdI) : FnOk P w K mg base (L2.CX P w) 3 f fd ["key"] (spCKx K CK) := by
  refine D.F.okX scCheckKey (fun vs H Q E h => ?_) (fun cdv A outer s H vs Q E hr h => ?_)
  · obtain ⟨x, d, rfl, _⟩ := h
    rfl
  · obtain ⟨x, d, rfl, hx, ht, hw, k⟩ := h
    refine ⟨_, pss_one (ps_if (pt_not (pt_val (pe_call GW (hr.mono (by decide)) (by rfl) DW.m DW.F.kp DW.b .nil pass0 (pa_cons (pv 0) pa_nil)))) (pss_one (ps_raiseE R (by decide) (by decide) (by decide) rfl hr rfl (takes_of rfl rfl rfl rfl) (pa_cons (pv 0) pa_nil))) pss_nil), ?_⟩
    refine ⟨_, rfl, x, d, rfl, hx, ht, ?_⟩
    rw [hw]
    exact ⟨_, rfl, ⟨_, rfl, mkO_read fun d hd => k.mk d hd⟩⟩
theorem ok_clx {f fC fI CK CS CN fK1 fS1 fN1 : Addr} {fd fdC fdI fdK1 fdS1 fdN1 : FuncData} (D : Def K mg "check_letter" sCheckLetter ["key", "sort", "number", "sorts"] f fd)
    (DC : Def K mg "check_key" sCheckKey ["key"] fC fdC) (GC : FnOk P w K mg base CX0 2 fC fdC ["key"] spCheckKey) (GX : FnOk P w K mg base (L2.CX P w) 3 fC fdC ["key"] (spCKx K CK))
    (DI : Def K mg "is_int" sIsInt ["thing"] fI fdI) (GI : FnOk P w K mg base CX0 1 fI fdI ["thing"] (spIsInt K))
    (RS : ErrC P K mg "BadSort" "BadSort.__init__" "word" "word" CS fS1 fdS1) (RN : ErrC P K mg "BadNumber" "BadNumber.__init__" "number" "number" CN fN1 fdN1) :
    FnOk P w K mg base (L2.CX P w) 4 f fd ["key", "sort", "number", "sorts"] (spCLx K CK CS CN) := by
  refine D.F.okX scCheckLetter (fun vs H Q E h => ?_) (fun cdv A outer s H vs Q E hr h => ?_)
  · obtain ⟨x, y, z, dx, dy, dz, l, sorts, C, fld, u, rfl, _⟩ := h
    rfl
  · obtain ⟨x, y, z, dx, dy, dz, l, sorts, C, fld, u, rfl, hx, tx, hy, sh, hz, hl, hws, bad, k⟩ := h
    have hS : Dp K H (.ref l) (.list (sorts.map PyData.str)) := .lst hl (dp_texts sorts)
    have shS : SeqAt.shaped (.list (sorts.map PyData.str)) = true := shaped_strs hws
    cases bad with
    | key hb =>
      refine ⟨_, pss_cons (ps_expr (pe_call GX hr (by rfl) DC.m DC.F.kp DC.b .nil (passes_call (takes_of rfl rfl rfl rfl) fun _ _ _ _ z => z) (pa_cons (pv 0) pa_nil)))
        (pss_cons (ps_if (pt_cmpR (op_notInD (hu65 hr)) (pv 1) (pv 3) (by rfl)) (pss_one ps_never) pss_nil)
        (pss_one (ps_if (pt_not (pt_val (pe_call GI (hr.mono (by decide)) (by rfl) DI.m DI.F.kp DI.b .nil pass0 (pa_cons (pv 2) pa_nil)))) (pss_one ps_never) pss_nil))), ?_⟩
      exact ⟨_, rfl, x, dx, rfl, hx, tx, hb, k⟩
    | sort kk hk hkw hs =>
      subst hk
      refine ⟨_, pss_cons (ps_expr (pe_call GC (hr.mono (by decide)) (by rfl) DC.m DC.F.kp DC.b .nil pass0 (pa_cons (pv 0) pa_nil)))
        (pss_cons (ps_if (pt_cmpR (op_notInD (hu65 hr)) (pv 1) (pv 3) (by rfl)) (pss_one (ps_raiseE RS (by decide) (by decide) (by decide) rfl (hr.mono (by decide)) rfl (takes_of rfl rfl rfl rfl) (pa_cons (pv 1) pa_nil))) pss_nil)
        (pss_one (ps_if (pt_not (pt_val (pe_call GI (hr.mono (by decide)) (by rfl) DI.m DI.F.kp DI.b .nil pass0 (pa_cons (pv 2) pa_nil)))) (pss_one ps_never) pss_nil))), ?_⟩
      refine ⟨_, rfl, kk, rfl, hkw, ?_⟩
      refine ⟨_, rfl, _, rfl, dy, _, hy, hS, sh, shS, _, rfl, ?_⟩
      rw [hs]
      exact ⟨_, rfl, mkO_read fun d hd => k.mk d hd⟩
    | num kk ss hk hkw hys hs hzi =>
      subst hk
      refine ⟨_, pss_cons (ps_expr (pe_call GC (hr.mono (by decide)) (by rfl) DC.m DC.F.kp DC.b .nil pass0 (pa_cons (pv 0) pa_nil)))
        (pss_cons (ps_if (pt_cmpR (op_notInD (hu65 hr)) (pv 1) (pv 3) (by rfl)) (pss_one ps_never) pss_nil)
        (pss_one (ps_if (pt_not (pt_val (pe_call GI (hr.mono (by decide)) (by rfl) DI.m DI.F.kp DI.b .nil pass0 (pa_cons (pv 2) pa_nil)))) (pss_one (ps_raiseE RN (by decide) (by decide) (by decide) rfl (hr.mono (by decide)) rfl (takes_of rfl rfl rfl rfl) (pa_cons (pv 2) pa_nil))) pss_nil))), ?_⟩
      refine ⟨_, rfl, kk, rfl, hkw, ?_⟩
      refine ⟨_, rfl, _, rfl, dy, _, hy, hS, sh, shS, _, rfl, ?_⟩
      rw [hs]
      refine iteF ?_
      refine ⟨_, rfl, z, dz, rfl, hz, ?_⟩
      rw [hzi]
      exact ⟨_, rfl, _, rfl, mkO_read fun d hd => k.mk d hd⟩
/-- take, where it refuses -/
def spVTakeX (K : PySem.W.Frag) (C Cb CK CS CN : Addr) : Sp := fun vs H Q E => ∃ (v c l tb bk : Addr) (D : Dv) (B : Bk) (x y z : V) (dx dy dz : PyData) (Ce : Addr) (fld : Str) (u : V), vs = [.ref v, x, y, z] ∧ DevAt C H v c l tb bk D ∧ BookAt Cb H bk B ∧ Dp K H x dx ∧ TxtD dx ∧ Dp K H y dy ∧ SeqAt.shaped dy = true ∧ Dp K H z dz ∧ (∀ z ∈ B.sorts, isWord z = true) ∧
  Bad B.sorts CK CS CN x dx y dy z dz Ce fld u ∧ ErrIs Ce fld u H E
theorem ok_vTakeX {f C Cb CK CS CN fL fS : Addr} {fd fdL fdS : FuncData} (F : Fun K "take" "Device.take" sVTake f fd) (DC : DevC K mg C) (BC : BookC K mg Cb)
    (DL : Def K mg "check_letter" sCheckLetter ["key", "sort", "number", "sorts"] fL fdL) (GL : FnOk P w K mg base (L2.CX P w) 4 fL fdL ["key", "sort", "number", "sorts"] (spCLx K CK CS CN))
    (mS : Meth K Cb "sorts" fS) (bS : Binds K fdS ["self"] []) (GS : FnOk P w K mg base CX0 1 fS fdS ["self"] (spBSorts Cb)) : FnOk P w K mg base (L2.CX P w) 5 f fd ["self", "key", "sort", "number"] (spVTakeX K C Cb CK CS CN) := by
  refine F.okX scVTake (fun vs H Q E h => ?_) (fun cdv A outer s H vs Q E hr h => ?_)
  · obtain ⟨v, c, l, tb, bk, D, B, x, y, z, dx, dy, dz, Ce, fld, u, rfl, _⟩ := h
    rfl
  · obtain ⟨v, c, l, tb, bk, D, B, x, y, z, dx, dy, dz, Ce, fld, u, rfl, hD, hB, hx, tx, hy, sh, hz, hws, bad, k⟩ := h
    refine ⟨_, pss_cons (ps_expr (pe_call GL hr (by rfl) DL.m DL.F.kp DL.b .nil (passes_call (takes_of rfl rfl rfl rfl) fun _ _ _ _ z => z) (pa_cons (pv 1) (pa_cons (pv 2) (pa_cons (pv 3) (pa_cons (pe_meth0 (pe_fld (pv 0) rfl) BC.cl mS GS (hr.mono (by decide)) bS .nil pass0) pa_nil))))))
      (pss_cons ps_never (pss_cons ps_never (pss_one ps_never))), ?_⟩
    obtain ⟨dxx, hv⟩ := hD.ob
    obtain ⟨dxb, ls, lt, e, w', tr, hp, _⟩ := id hB
    refine ⟨_, rfl, _, rfl, _, rfl, _, rfl, v, C, dxx, _, .ref bk, rfl, hv, DC.cl, DC.n1, dvF_book .., bk, dxb, _, rfl, hp, bkF_no _ _ _ _ _ _ (by decide +kernel), bk, B, rfl, hB, fun q hq => ?_⟩
    have s1 := same_new (o := .lst (B.sorts.map V.str)) hq
    exact ⟨x, y, z, dx, dy, dz, q, B.sorts, Ce, fld, u, rfl, HN.Dp.same s1 hx, tx, HN.Dp.same s1 hy, sh, HN.Dp.same s1 hz, SqL.of upd_same, hws, bad, k.same s1⟩
/-- state and held, where they refuse -/
def spVKeyX (K : PySem.W.Frag) (CK : Addr) : Sp := fun vs H Q E => ∃ (v : Addr) (x : V) (dx : PyData), vs = [.ref v, x] ∧ Dp K H x dx ∧ TxtD dx ∧ dWord dx = false ∧ ErrIs CK "key" x H E
theorem ok_vStateX {f CK fK : Addr} {fd fdK : FuncData} (F : Fun K "state" "Device.state" sVState f fd) (DK : Def K mg "check_key" sCheckKey ["key"] fK fdK) (GK : FnOk P w K mg base (L2.CX P w) 3 fK fdK ["key"] (spCKx K CK)) : FnOk P w K mg base (L2.CX P w) 4 f fd ["self", "key"] (spVKeyX K CK) := by
  refine F.okX scVState (fun vs H Q E h => ?_) (fun cdv A outer s H vs Q E hr h => ?_)
  · obtain ⟨v, x, dx, rfl, _⟩ := h
    rfl
  · obtain ⟨v, x, dx, rfl, hx, tx, hw, k⟩ := h
    refine ⟨_, pss_cons (ps_expr (pe_call GK hr (by rfl) DK.m DK.F.kp DK.b .nil (passes_call (takes_of rfl rfl rfl rfl) fun _ _ _ _ z => z) (pa_cons (pv 1) pa_nil))) (pss_one ps_never), ?_⟩
    exact ⟨_, rfl, x, dx, rfl, hx, tx, hw, k⟩
theorem ok_vHeldX {f CK fK : Addr} {fd fdK : FuncData} (F : Fun K "held" "Device.held" sVHeld f fd) (DK : Def K mg "check_key" sCheckKey ["key"] fK fdK) (GK : FnOk P w K mg base (L2.CX P w) 3 fK fdK ["key"] (spCKx K CK)) : FnOk P w K mg base (L2.CX P w) 4 f fd ["self", "key"] (spVKeyX K CK) := by
  refine F.okX scVHeld (fun vs H Q E h => ?_) (fun cdv A outer s H vs Q E hr h => ?_)
  · obtain ⟨v, x, dx, rfl, _⟩ := h
    rfl
  · obtain ⟨v, x, dx, rfl, hx, tx, hw, k⟩ := h
    refine ⟨_, pss_cons (ps_expr (pe_call GK hr (by rfl) DK.m DK.F.kp DK.b .nil (passes_call (takes_of rfl rfl rfl rfl) fun _ _ _ _ z => z) (pa_cons (pv 1) pa_nil))) (pss_one ps_never), ?_⟩
    exact ⟨_, rfl, x, dx, rfl, hx, tx, hw, k⟩
end
end HN

namespace HN
open PySem PySem.Spec PyProof.Rows L2 LamX
theorem takes_len {X : Cx} {W : WX} (tk : Takes X W) : Takes X (fun cls d σ H => σ.length = X.N.length → W cls d σ H) :=
  fun u s' ⟨a, B, sI, pins, σ, H, cls, d, e, I, nb, up, sky, na, os, ag, w⟩ => tk u s' ⟨a, B, sI, pins, σ, H, cls, d, e, I, nb, up, sky, na, os, ag, w I.len⟩
def Tag3 (CK CS CN C : Addr) (fld tag : Str) : Prop := (C = CK ∧ fld = "key" ∧ tag = "key") ∨ (C = CS ∧ fld = "word" ∧ tag = "sort") ∨ (C = CN ∧ fld = "number" ∧ tag = "number")
/-- tried(lambda: ..): what is told, or which error came with what it holds -/
def TT3 (CK CS CN : Addr) : (L2.XK → Hp → VK → Prop) → Hp → VK → Prop := fun tl H Q =>
  tl (fun cls d H' => ∃ (C : Addr) (fld tag : Str) (dd : Addr) (u : V), Tag3 CK CS CN C fld tag ∧ cls = .ref C ∧ d = some dd ∧ H' dd = some (.xd [(fld, u)]) ∧ ∀ p H2, Same H' H2 → H2 p = some (.tup [.str tag, u]) → Q (.ref p) H2) H
    (fun v H' => [V.str "told", v].length ≤ sizeLine ∧ ∀ p, H' p = none → ∃ y, (some (some (V.ref p)) : Option (Option V)) = some (some y) ∧ Q y (upd H' p (.tup [.str "told", v])))
abbrev nmTried : List Str := ["_law_work", "_law_found", "e"]
theorem scTried : FnScope nmTried ["_law_work"] (defScope sLTried) := ⟨rfl, rfl, rfl, by decide +kernel, rfl, by decide +kernel, by decide +kernel⟩
structure Exm3 (K : PySem.W.Frag) (CK CS CN : Addr) : Prop where
  kk : PySem.W.exmOne K (.ref CK) (.ref CK) = some true
  sk : PySem.W.exmOne K (.ref CS) (.ref CK) = some false
  ss : PySem.W.exmOne K (.ref CS) (.ref CS) = some true
  nk : PySem.W.exmOne K (.ref CN) (.ref CK) = some false
  ns : PySem.W.exmOne K (.ref CN) (.ref CS) = some false
  nn : PySem.W.exmOne K (.ref CN) (.ref CN) = some true
theorem tried_gives {X : Cx} {q : Str} {g CK CS CN fK fS fN : Addr} {fdK fdS fdN : FuncData} {cdg : Value} (EX : Exm3 X.K CK CS CN) (RK : ErrC X.prog X.K X.mg "BadKey" "BadKey.__init__" "key" "key" CK fK fdK) (RS : ErrC X.prog X.K X.mg "BadSort" "BadSort.__init__" "word" "word" CS fS fdS)
    (RN : ErrC X.prog X.K X.mg "BadNumber" "BadNumber.__init__" "number" "number" CN fN fdN) : GivesTo X nmTried "_law_tried" (defScope sLTried) g cdg (defBody sLTried) "_law_work" q (TT3 CK CS CN) := by
  intro f c' s H Q tl act hc h
  generalize hZ : (cxOf C8.CX0 X.prog X.w X.K X.mg X.base nmTried "_law_tried" (defScope sLTried) g cdg X.A X.stack s H C8.E0).nox = Z
  subst hZ
  refine ⟨_, pss_cons (ps_try_manyAs (n := "e") (i := 2) rfl rfl scTried.nd rfl rfl LamX.takes0
      (tb := fun W D σ H => ∃ Ech : L2.XK, (∀ cls d σ' H', Ech cls d H' → σ'.length = 3 → W cls d σ' H') ∧ σ[0]? = some (some (.ref f)) ∧ H c' = some (CodeO c' q) ∧ tl Ech H fun v H1 => [V.str "told", v].length ≤ sizeLine ∧ ∀ p, H1 p = none → D.nx (σ.set 1 (some (.ref p))) (upd H1 p (.tup [.str "told", v])))
      (fun W pn xe tk _ => ?_)
      (.cons ⟨rfl, by decide, .inl RK.g⟩ (fun a oe cls d pn hz hf => pss_one (ps_set (i := 1) scTried.nd rfl (Or.inl rfl) (pe_tup (pa_cons pe_str (pa_cons (pe_xf RK.xf RK.cl.no hz hf (pv 2)) pa_nil)))))
      (.cons ⟨rfl, by decide, .inl RS.g⟩ (fun a oe cls d pn hz hf => pss_one (ps_set (i := 1) scTried.nd rfl (Or.inl rfl) (pe_tup (pa_cons pe_str (pa_cons (pe_xf RS.xf RS.cl.no hz hf (pv 2)) pa_nil)))))
      (.cons ⟨rfl, by decide, .inl RN.g⟩ (fun a oe cls d pn hz hf => pss_one (ps_set (i := 1) scTried.nd rfl (Or.inl rfl) (pe_tup (pa_cons pe_str (pa_cons (pe_xf RN.xf RN.cl.no hz hf (pv 2)) pa_nil))))) .nil))))
    (pss_one (ps_ret (pv 1))), ?_⟩
  · refine ⟨fun pins s' σ H' D I h' => ?_⟩
    obtain ⟨Ech, hW, h1, h2, h3⟩ := h'
    exact (pss_one (ps_set (i := 1) scTried.nd rfl (Or.inl rfl) (pe_tup (pa_cons pe_str (pa_cons (act (fun cls d σ H => σ.length = 3 → W cls d σ H) pn xe Ech _ _ (takes_len tk) hW) pa_nil))))).run pins s' σ H' D I
      ⟨h1, h2, h3⟩
  · refine ⟨_, fun cls d σ' H' he hl => ?_, rfl, hc, h⟩
    obtain ⟨C, fld, tag, dd, u, tg, rfl, rfl, hd, k⟩ := he
    obtain ⟨s0, s1, s2, rfl⟩ : ∃ s0 s1 s2, σ' = [s0, s1, s2] := by
      match σ', hl with
      | [a, b, c], _ => exact ⟨a, b, c, rfl⟩
    rcases tg with ⟨rfl, rfl, rfl⟩ | ⟨rfl, rfl, rfl⟩ | ⟨rfl, rfl, rfl⟩
    · refine ⟨true, EX.kk, fun _ a na => ?_, fun z => nomatch z⟩
      refine ⟨_, rfl, rfl, rfl, dd, _, u, rfl, hd, rfl, by show 2 ≤ sizeLine; decide, fun p hp => ?_⟩
      exact ⟨_, rfl, k p _ (same_new hp) upd_same⟩
    · refine ⟨false, EX.sk, fun z => (nomatch z), fun _ => ⟨true, EX.ss, fun _ a na => ?_, fun z => nomatch z⟩⟩
      refine ⟨_, rfl, rfl, rfl, dd, _, u, rfl, hd, rfl, by show 2 ≤ sizeLine; decide, fun p hp => ?_⟩
      exact ⟨_, rfl, k p _ (same_new hp) upd_same⟩
    · refine ⟨false, EX.nk, fun z => (nomatch z), fun _ => ⟨false, EX.ns, fun z => (nomatch z), fun _ => ⟨true, EX.nn, fun _ a na => ?_, fun z => nomatch z⟩⟩⟩
      refine ⟨_, rfl, rfl, rfl, dd, _, u, rfl, hd, rfl, by show 2 ≤ sizeLine; decide, fun p hp => ?_⟩
      exact ⟨_, rfl, k p _ (same_new hp) upd_same⟩
end HN

namespace HN
open PySem PySem.Spec PyProof.Rows L2
abbrev Lt1 := Str × Int
def Lt1Is (H : Hp) (x : V) (a : Lt1) : Prop := ∃ t, x = .ref t ∧ H t = some (.tup [.str a.1, .int a.2])
def RowL (H : Hp) (q : Addr) (row : List Lt1) : Prop := ∃ xs, H q = some (.lst xs) ∧ Paired (Lt1Is H) xs row
def spSomeRow : Sp := fun vs H Q _ => ∃ (d pl s t r c : Addr) (B : Bk) (m : Nat) (wd : Int), vs = [.ref d, .ref pl, .int (m : Nat), .int wd] ∧ Dr H d ∧ PlanAt H pl s t r c B ∧ Wds 3 B.sorts ∧ m ≤ 100 ∧ 0 < wd ∧ wd ≤ 1000 ∧
  ∀ q row H', Dr H' d → But d H H' → H q = none → RowL H' q row → (∀ a ∈ row, a.1 ∈ B.sorts) → row.length ≤ m → Q (.ref q) H'
section
variable {P : Program} {w : World} {K : PySem.W.Frag} {mg : Str → Option Value} {base : Heap}
abbrev nmSomeRow : List Str := ["_law_draws", "_law_plan", "_law_most", "_law_wide", "_law_k"]
theorem scSomeRow : FnScope nmSomeRow ["_law_draws", "_law_plan", "_law_most", "_law_wide"] (defScope sLSomeRow) := ⟨rfl, rfl, rfl, by decide +kernel, rfl, by decide +kernel, by decide +kernel⟩
theorem ok_someRow {f fD fP : Addr} {fd fdD fdP : FuncData} (D : Def K mg "_law_some_row" sLSomeRow ["_law_draws", "_law_plan", "_law_most", "_law_wide"] f fd) (T : Txt K mg)
    (DD : Def K mg "_law_draw" sDraw ["_law_draws", "_law_many"] fD fdD) (GD : FnOk P w K mg base CX0 1 fD fdD ["_law_draws", "_law_many"] spDraw)
    (DP : Def K mg "_law_pick" sPick ["_law_draws", "_law_xs"] fP fdP) (GP : FnOk P w K mg base CX0 2 fP fdP ["_law_draws", "_law_xs"] (spPick K)) :
    FnOk P w K mg base CX0 3 f fd ["_law_draws", "_law_plan", "_law_most", "_law_wide"] spSomeRow := by
  refine D.F.ok scSomeRow (fun vs H Q E h => ?_) (fun cdv A outer s H vs Q E hr h => ?_)
  · obtain ⟨d, pl, s, t, r, c, B, m, wd, rfl, _⟩ := h
    rfl
  · obtain ⟨d, pl, s, t, r, c, B, m, wd, rfl, hd, hP, wst, hm, w0, w1, k⟩ := h
    refine ⟨_, pss_one (ps_ret (pe_lc (own := [("_law_k", 4)]) (g := gName 4) (tt := tYes) rfl scSomeRow.nd (pi_range1 rfl T.range (pa_cons (pe_call GD (hr.mono (by decide)) (by rfl) DD.m DD.F.kp DD.b .nil pass0 (pa_cons (pv 0) (pa_cons (pe_op op_add (pv 2) pe_int) pa_nil))) pa_nil))
      (blkOk_by (N := nmSomeRow) (sc := defScope sLSomeRow) (by decide +kernel)) (fun _ _ _ _ _ => pg_name (i := 4) scSomeRow.nd rfl (Or.inl rfl)) (fun _ _ _ _ _ => pts_nil)
      (fun _ _ _ _ _ => pe_tup (pa_cons (pe_call GP (hr.mono (by decide)) (by rfl) DP.m DP.F.kp DP.b .nil pass0 (pa_cons (pv 0) (pa_cons (pe_ix (r := rIxT K) ix_tup (pv 1) pe_int (fun _ _ => rfl)) pa_nil)))
        (pa_cons (pe_op (r := rI0 fun i j => .int (i - j)) op_sub (pe_call GD (hr.mono (by decide)) (by rfl) DD.m DD.F.kp DD.b .nil pass0 (pa_cons (pv 0) (pa_cons (pv 3) pa_nil))) pe_int) pa_nil))))), ?_⟩
    refine ⟨_, rfl, _, rfl, _, _, rfl, rfl, d, _, rfl, hd, by omega, by omega, fun n H1 n0 n1 hd1 b1 => ⟨n, rfl, by omega, by omega, fun L hL => ?_⟩⟩
    obtain ⟨N, hN⟩ : ∃ N : Nat, n = (N : Int) := ⟨n.toNat, (Int.toNat_of_nonneg n0).symm⟩
    subst hN
    have nLd : L ≠ d := dr_ne hd1 hL
    have hLH : H L = none := b1.free hL nLd
    refine lc_it walk_range (fun i H' => Dr H' d ∧ But d H1 H' ∧ ∃ row, RowL H' L row ∧ row.length = i ∧ ∀ a ∈ row, a.1 ∈ B.sorts) ⟨hd1.same (same_new hL), But.of (same_new hL), [], ⟨[], upd_same, .nil⟩, rfl, fun a h => (nomatch h)⟩ (fun _ _ _ _ => trivial) (fun i x H2 H2' hi ⟨hd2, b2, row, ⟨xs, hxs, rp⟩, el, hrs⟩ y => ?_) (fun H2 ⟨hd2, b2, row, hR, el, hrs⟩ => ?_)
    · obtain ⟨hH, hx⟩ := y
      have hH' := hH.symm
      subst hH'
      have b02 : But d H H2 := b1.trans b2
      have ht2 : H2 t = _ := b02 _ _ (dr_word hd hP.t) hP.t
      have hi' : i < N := by simpa using hi
      refine ⟨rfl, ?_⟩
      refine ⟨_, rfl, _, rfl, pl, _, 1, .ref t, rfl, rfl, SqT.of (b02 _ _ (dr_tup hd hP.pl) hP.pl), rfl, d, t, _, rfl, hd2, SqL.of ht2, dr_word hd hP.t, by rw [List.length_map]; exact wst.1, by rw [List.length_map]; have := wst.2.1; omega, fun r1 v1 H3 hv1 hd3 b3 => ?_⟩
      obtain ⟨z, hz, rfl⟩ := get_str hv1
      refine ⟨_, rfl, _, rfl, d, wd, rfl, hd3, w0, w1, fun r2 H4 _ _ hd4 b4 => ⟨_, _, rfl, rfl, by show 2 ≤ sizeLine; decide, fun p hp => ?_⟩⟩
      have b24 : But d H2 H4 := b3.trans b4
      have s5 := same_new (o := .tup [.str z, .int (r2 - 2)]) hp
      have hx4 : H4 L = _ := b24 _ _ nLd hxs
      have hx5 := s5 _ _ hx4
      generalize hH5 : upd H4 p (.tup [.str z, .int (r2 - 2)]) = H5 at s5 hx5
      have hp5 : H5 p = some (.tup [.str z, .int (r2 - 2)]) := by rw [← hH5]; exact upd_same
      have b5 : But L H5 (upd H5 L (.lst (xs ++ [.ref p]))) := But.upd
      have kp : ∀ {a xs'}, H2 a = some (.tup xs') → (upd H5 L (.lst (xs ++ [.ref p]))) a = some (.tup xs') := fun e => b5 _ _ (ne_of (s5 _ _ (b24 _ _ (dr_tup hd2 e) e)) hx5 (fun z => nomatch z)) (s5 _ _ (b24 _ _ (dr_tup hd2 e) e))
      refine ⟨xs, hx5, ?_, ?_, ?_, row ++ [(z, r2 - 2)], ⟨_, upd_same, ?_⟩, by simp [el], fun a ha => ?_⟩
      · rw [Paired.length rp, el]
        exact Nat.lt_of_le_of_lt (by omega : i ≤ 1000) (by decide)
      · obtain ⟨a1, a2, a3, e⟩ := hd4.same s5
        exact ⟨a1, a2, a3, b5 _ _ (fun z => nLd z.symm) e⟩
      · exact fun b o nb e => by
          have nL : b ≠ L := fun z => by rw [z, hL] at e; cases e
          exact b5 _ _ nL (s5 _ _ (b24 _ _ nb (b2 _ _ nb e)))
      · refine paired_snoc ⟨p, rfl, b5 _ _ (ne_of hp5 hx5 (fun z => nomatch z)) hp5⟩ (Paired.mapP rp fun x y ⟨t', q1, q2⟩ => ⟨t', q1, kp q2⟩)
      · rcases List.mem_append.mp ha with h | h
        · exact hrs a h
        · rw [List.mem_singleton] at h
          subst h
          exact List.mem_of_getElem? hz
    · have el' : row.length = N := by simpa using el
      exact k L row H2 hd2 (b1.trans b2) hLH hR hrs (by omega)
end
end HN

namespace HN
open PySem PySem.Spec PyProof.Rows L2
def abc : Str := "abcdefghijklmnopqrstuvwxyz"
def lawSigns (z : Str) : Bool := z.cps.toList.all fun c => decide (c ∈ abc.cps.toList)
def lawWord : PyData → Bool
  | .str z => (decide (1 ≤ z.length) && decide (z.length ≤ 8)) && lawSigns z
  | _ => false
def lawSort (sorts : List Str) : PyData → Bool
  | .str s => decide (s ∈ sorts)
  | _ => false
def spDue (K : PySem.W.Frag) : Sp := fun vs H Q _ => ∃ (pl s t r c : Addr) (B : Bk) (x y z : V) (dx dy dz : PyData), vs = [.ref pl, x, y, z] ∧ PlanAt H pl s t r c B ∧ Dp K H x dx ∧ TxtD dx ∧ Dp K H y dy ∧ Dp K H z dz ∧
  (lawWord dx = false → ∀ p H', Same H H' → H' p = some (.tup [.str "key", x]) → Q (.ref p) H') ∧ (lawWord dx = true → lawSort B.sorts dy = false → ∀ p H', Same H H' → H' p = some (.tup [.str "sort", y]) → Q (.ref p) H') ∧
  (lawWord dx = true → lawSort B.sorts dy = true → dInt dz = false → ∀ p H', Same H H' → H' p = some (.tup [.str "number", z]) → Q (.ref p) H') ∧ (lawWord dx = true → lawSort B.sorts dy = true → dInt dz = true → ∀ H', Same H H' → Q .non H')
section
variable {P : Program} {w : World} {K : PySem.W.Frag} {mg : Str → Option Value} {base : Heap}
abbrev nmDue : List Str := ["_law_plan", "_law_key", "_law_sort", "_law_number", "_law_sign"]
theorem scDue : FnScope nmDue ["_law_plan", "_law_key", "_law_sort", "_law_number"] (defScope sLDue) := ⟨rfl, rfl, rfl, by decide +kernel, rfl, by decide +kernel, by decide +kernel⟩
theorem ok_due {f : Addr} {fd : FuncData} (D : Def K mg "_law_due" sLDue ["_law_plan", "_law_key", "_law_sort", "_law_number"] f fd) (T : Txt K mg) : FnOk P w K mg base CX0 1 f fd ["_law_plan", "_law_key", "_law_sort", "_law_number"] (spDue K) := by
  refine D.F.ok scDue (fun vs H Q E h => ?_) (fun cdv A outer s H vs Q E hr h => ?_)
  · obtain ⟨pl, s, t, r, c, B, x, y, z, dx, dy, dz, rfl, _⟩ := h
    rfl
  · obtain ⟨pl, s, t, r, c, B, x, y, z, dx, dy, dz, rfl, hP, hx, tx, hy, hz, k1, k2, k3, k4⟩ := h
    refine ⟨_, pss_cons (ps_if (PW.pt (pw_or (pt_not (pt_val (pe_callB call_isi (by rfl) T.isi (by decide +kernel) (pa_cons (pv 1) (pa_cons (pe_bltn (v := .ty "str") (by rfl) T.str (by decide +kernel) rfl) pa_nil)))))
        (pw_or1 (pt_not (pt_chain op_le op_le pe_int (pe_callB call_len_str (by rfl) T.len PySem.boot_len (pa_cons (pv 1) pa_nil)) pe_int))))) (pss_one (ps_ret (pe_tup (pa_cons pe_str (pa_cons (pv 1) pa_nil))))) pss_nil)
      (pss_cons (ps_if (pt_not (pt_val (pe_callB (cr_all rfl) (by rfl) T.all (by decide +kernel) (pa_cons (pe_lc (own := [("_law_sign", 4)]) (g := gName 4) (tt := tYes) rfl scDue.nd (pi_str (pv 1)) (blkOk_by (N := nmDue) (sc := defScope sLDue) (by decide +kernel))
          (fun _ _ _ _ _ => pg_name (i := 4) scDue.nd rfl (Or.inl rfl)) (fun _ _ _ _ _ => pts_nil) (fun _ _ _ _ _ => pe_cmpR op_in_sign (pv 4) pe_str (by rfl))) pa_nil)))) (pss_one (ps_ret (pe_tup (pa_cons pe_str (pa_cons (pv 1) pa_nil))))) pss_nil)
      (pss_cons (ps_if (PW.pt (pw_or (pt_not (pt_val (pe_callB call_isi (by rfl) T.isi (by decide +kernel) (pa_cons (pv 2) (pa_cons (pe_bltn (v := .ty "str") (by rfl) T.str (by decide +kernel) rfl) pa_nil)))))
        (pw_or1 (pt_cmpR op_notIn_seq (pv 2) (pe_ix ix_tup (pv 0) pe_int (fun _ _ => rfl)) (by rfl))))) (pss_one (ps_ret (pe_tup (pa_cons pe_str (pa_cons (pv 2) pa_nil))))) pss_nil)
      (pss_one (ps_ret (pe_ifExp (PW.pt (pw_and (pt_val (pe_callB call_isi (by rfl) T.isi (by decide +kernel) (pa_cons (pv 3) (pa_cons (pe_bltn (v := .ty "int") (by rfl) T.int (by decide +kernel) rfl) pa_nil))))
        (pw_and1 (pt_not (pt_val (pe_callB call_isi (by rfl) T.isi (by decide +kernel) (pa_cons (pv 3) (pa_cons (pe_bltn (v := .ty "bool") (by rfl) T.bool (by decide +kernel) rfl) pa_nil)))))))) pe_non (pe_tup (pa_cons pe_str (pa_cons (pv 3) pa_nil)))))))), ?_⟩
    refine ⟨_, rfl, x, .ty "str", _, _, _, rfl, .ty "str", dp_ty hx, kit_isD, _, rfl, ?_⟩
    rw [isD_str]
    have bad1 : lawWord dx = false → _ := fun hw => (⟨_, rfl, by show 2 ≤ sizeLine; decide, fun p hp => k1 hw p _ (same_new hp) upd_same⟩ : tRet (tTup (tCons (tC (.str "key")) (tCons (tVar 1) tNil))) { nx := fun _ H' => Q .non H', rt := Q } (L2.start nmDue [.ref pl, x, y, z]) H)
    cases dx with
    | str zx =>
      cases hx
      have lz := tx zx rfl
      refine iteF ?_
      have e1 : decide ((1 : Int) ≤ (zx.length : Int)) = decide (1 ≤ zx.length) := by congr 1; exact propext ⟨fun h => by omega, fun h => by omega⟩
      have e8 : decide ((zx.length : Int) ≤ (8 : Int)) = decide (zx.length ≤ 8) := by congr 1; exact propext ⟨fun h => by omega, fun h => by omega⟩
      refine ⟨_, rfl, zx, rfl, Nat.le_trans lz (by decide), _, _, rfl, rfl, _, rfl, ?_⟩
      rw [e1]
      by_cases c1 : 1 ≤ zx.length
      case neg =>
        rw [decide_eq_false c1]
        exact ⟨_, rfl, bad1 (by simp [lawWord, c1])⟩
      rw [decide_eq_true c1]
      refine iteT ?_
      refine ⟨_, _, rfl, rfl, _, rfl, ?_⟩
      rw [e8]
      by_cases c8 : zx.length ≤ 8
      case neg =>
        rw [decide_eq_false c8]
        exact bad1 (by simp [lawWord, c8])
      rw [decide_eq_true c8]
      refine iteF ?_
      refine ⟨_, rfl, zx, rfl, fun L hL => lc_it walk_str (fun i H' => Same H H' ∧ H' L = some (.lst (((zx.cps.toList.map fun c => decide (c ∈ abc.cps.toList)).take i).map V.bl))) ⟨same_new hL, by rw [upd_same]; rfl⟩ (fun _ _ _ _ => trivial) (fun i u H1 H1' hi ⟨s1, hl1⟩ yy => ?_) (fun H1 ⟨s1, hl1⟩ => ?_)⟩
      · obtain ⟨hH, cc, hcc, rfl⟩ := yy
        have hH' := hH.symm
        subst hH'
        refine ⟨rfl, ?_⟩
        have em : (zx.cps.toList.map fun c => decide (c ∈ abc.cps.toList))[i]? = some (decide (cc ∈ abc.cps.toList)) := by
          rw [List.getElem?_map, Array.getElem?_toList, hcc]; rfl
        refine ⟨_, rfl, cc, abc, rfl, rfl, _, hl1, ?_, ?_, ?_⟩
        · rw [List.length_map, List.length_take]
          refine Nat.lt_of_le_of_lt (Nat.min_le_left _ _) (Nat.lt_of_lt_of_le hi ?_)
          have : zx.cps.size = zx.length := rfl
          have h8 : 8 < sizeLine := by decide
          omega
        · intro b o e
          rw [upd_ne (ne_of_none e hL)]
          exact s1 b o e
        · rw [upd_same, take_more em, List.map_append]; rfl
      refine ⟨L, (zx.cps.toList.map fun c => decide (c ∈ abc.cps.toList)), rfl, SqL.of (by rw [hl1, List.take_of_length_le (by simp)]), _, rfl, ?_⟩
      have eall : ((zx.cps.toList.map fun c => decide (c ∈ abc.cps.toList)).all id) = lawSigns zx := by
        unfold lawSigns; rw [List.all_map]; rfl
      rw [eall]
      cases hsg : lawSigns zx with
      | false => exact iteT ⟨_, rfl, by show 2 ≤ sizeLine; decide, fun p hp => k1 (by simp [lawWord, hsg]) p _ (s1.trans (same_new hp)) upd_same⟩
      | true =>
      refine iteF ?_
      have hw : lawWord (.str zx) = true := by simp [lawWord, hsg, c1, c8]
      have hy1 := Dp.same s1 hy
      have hz1 := Dp.same s1 hz
      have hP1 := hP.same s1
      refine ⟨_, rfl, y, .ty "str", _, _, _, rfl, .ty "str", dp_ty hy1, kit_isD, _, rfl, ?_⟩
      rw [isD_str]
      have bad2 : lawSort B.sorts dy = false → _ := fun hs => (⟨_, rfl, by show 2 ≤ sizeLine; decide, fun p hp => k2 hw hs p _ (s1.trans (same_new hp)) upd_same⟩ : tRet (tTup (tCons (tC (.str "sort")) (tCons (tVar 2) tNil))) { nx := fun _ H' => Q .non H', rt := Q } (L2.start nmDue [.ref pl, .str zx, y, z]) H1)
      cases dy with
      | str zy =>
        cases hy
        refine iteF ?_
        refine ⟨_, rfl, _, rfl, pl, _, 1, .ref t, rfl, rfl, SqT.of hP1.pl, rfl, t, _, rfl, .inl (SqL.of hP1.t), rfl, flat_strs _, _, rfl, ?_⟩
        rw [if_pos rfl, inV_str]
        by_cases hin : zy ∈ B.sorts
        case neg =>
          rw [decide_eq_false hin]
          exact iteT (bad2 (by simp [lawSort, hin]))
        rw [decide_eq_true hin]
        refine iteF ?_
        have hso : lawSort B.sorts (.str zy) = true := by simp [lawSort, hin]
        refine ⟨_, rfl, z, .ty "int", _, _, _, rfl, .ty "int", dp_ty hz1, kit_isD, _, rfl, ?_⟩
        rw [isD_int]
        have bad3 : dInt dz = false → _ := fun hi => (⟨_, rfl, by show 2 ≤ sizeLine; decide, fun p hp => k3 hw hso hi p _ (s1.trans (same_new hp)) upd_same⟩ : tTup (tCons (tC (.str "number")) (tCons (tVar 3) tNil)) (L2.start nmDue [.ref pl, .str zx, .str zy, z]) H1 Q)
        cases dz with
        | int _ =>
          refine iteT ?_
          refine ⟨_, rfl, z, .ty "bool", _, _, _, rfl, .ty "bool", dp_ty hz1, kit_isD, _, rfl, ?_⟩
          rw [isD_bool]
          exact iteT (k4 hw hso rfl H1 s1)
        | bool _ =>
          refine iteT ?_
          refine ⟨_, rfl, z, .ty "bool", _, _, _, rfl, .ty "bool", dp_ty hz1, kit_isD, _, rfl, ?_⟩
          rw [isD_bool]
          exact iteF (bad3 rfl)
        | none => exact iteF (bad3 rfl)
        | str _ => exact iteF (bad3 rfl)
        | list _ => exact iteF (bad3 rfl)
        | tuple _ => exact iteF (bad3 rfl)
        | dict _ => exact iteF (bad3 rfl)
      | none => exact iteT (bad2 rfl)
      | bool _ => exact iteT (bad2 rfl)
      | int _ => exact iteT (bad2 rfl)
      | list _ => exact iteT (bad2 rfl)
      | tuple _ => exact iteT (bad2 rfl)
      | dict _ => exact iteT (bad2 rfl)
    | none => exact iteT (bad1 rfl)
    | bool _ => exact iteT (bad1 rfl)
    | int _ => exact iteT (bad1 rfl)
    | list _ => exact iteT (bad1 rfl)
    | tuple _ => exact iteT (bad1 rfl)
    | dict _ => exact iteT (bad1 rfl)
end
end HN

namespace HN
open PySem PySem.Spec PyProof.Rows L2 LamX
theorem any_eqv (sorts : List Str) (d : PyData) : ((sorts.map PyData.str).any fun u => PyData.eqv u d) = lawSort sorts d := by
  rw [List.any_map]
  cases d with
  | str z =>
    show (sorts.any fun u => PyData.eqv (.str u) (.str z)) = decide (z ∈ sorts)
    rw [Bool.eq_iff_iff]
    simp only [List.any_eq_true, decide_eq_true_eq]
    constructor
    · rintro ⟨u, hu, e⟩
      have : u = z := by simpa [PyData.eqv] using e
      exact this ▸ hu
    · intro h
      exact ⟨z, h, by simp [PyData.eqv]⟩
  | none => simp [lawSort, PyData.eqv]
  | bool b => simp [lawSort, PyData.eqv]
  | int i => simp [lawSort, PyData.eqv]
  | list xs => simp [lawSort, PyData.eqv]
  | tuple xs => simp [lawSort, PyData.eqv]
  | dict xs => simp [lawSort, PyData.eqv]
/-- what is handed where a key, a sort, a number is due -/
structure Odd (K : PySem.W.Frag) (H : Hp) (x : V) (d : PyData) : Prop where
  dp : Dp K H x d
  pl : plainD d = true
  de : dep d ≤ 1
  wd : wd d ≤ 100
  sh : SeqAt.shaped d = true
theorem Odd.same {K : PySem.W.Frag} {H H' : Hp} {x : V} {d : PyData} (o : Odd K H x d) (s : Same H H') : Odd K H' x d := ⟨HN.Dp.same s o.dp, o.pl, o.de, o.wd, o.sh⟩
structure KeyOk (x : V) (d : PyData) : Prop where
  tx : TxtD d
  lw : lawWord d = dWord d
  st : dWord d = true → ∃ k, x = .str k ∧ d = .str k
theorem odd_flat {K : PySem.W.Frag} {H : Hp} {x : V} {d : PyData} (h : Dp K H x d) (f : (match d with | .none => true | .bool _ => true | .int _ => true | .str z => PyData.strOk z | _ => false) = true) : Odd K H x d := by
  cases d <;> simp at f <;> refine ⟨h, rfl, by simp [dep], by simp [HN.wd], ?_⟩ <;> simp [SeqAt.shaped, PyData.canLay0, PyData.depth, f]
theorem odd_one {K : PySem.W.Frag} {H : Hp} {x : V} {z : Str} (h : Dp K H x (.tuple [.str z])) (f : PyData.strOk z = true) : Odd K H x (.tuple [.str z]) :=
  ⟨h, by simp [plainD, plainDL], by simp [dep, depL], by simp [HN.wd, wdL], by simp [SeqAt.shaped, PyData.canLay0, PyData.canLayAll0, PyData.depth, PyData.depthAll, f]⟩
theorem odd_lst {K : PySem.W.Frag} {H : Hp} {x : V} {z : Str} (h : Dp K H x (.list [.str z])) (f : PyData.strOk z = true) : Odd K H x (.list [.str z]) :=
  ⟨h, by simp [plainD, plainDL], by simp [dep, depL], by simp [HN.wd, wdL], by simp [SeqAt.shaped, PyData.canLay0, PyData.canLayAll0, PyData.depth, PyData.depthAll, f]⟩
theorem word_ok {z : Str} (h : isWord z = true) : PyData.strOk z = true := by
  simp only [isWord, Bool.and_eq_true] at h
  have ha : Txt.isascii z = true := h.2.2.1
  unfold Txt.isascii at ha
  unfold PyData.strOk
  simp only [Array.all_eq_true, decide_eq_true_eq] at ha ⊢
  intro i hi
  have := ha i hi
  omega
theorem keyOk_str {k : Str} (h1 : k.length ≤ 1000) (h2 : lawWord (.str k) = dWord (.str k)) : KeyOk (.str k) (.str k) := ⟨fun z e => (by cases e; exact h1), h2, fun _ => ⟨k, rfl, rfl⟩⟩
theorem keyOk_no {x : V} {d : PyData} (h : (match d with | .str _ => false | _ => true) = true) : KeyOk x d := by
  cases d <;> simp at h <;> exact ⟨fun z e => (nomatch e), rfl, fun e => (nomatch e)⟩
theorem keys11 : ∀ z ∈ (["a", "a", "longword", "", "longworde", "A", "a b"] : List Str), z.length ≤ 1000 ∧ lawWord (.str z) = dWord (.str z) ∧ PyData.strOk z = true := by decide +kernel
end HN

namespace HN
open PySem PySem.Spec PyProof.Rows L2 LamX
/-! ### heaps without tables of code -/
def noT (H : Hp) : Hp := fun b => match H b with | some (.tbl _) => none | o => o
theorem noT_get {H : Hp} {b : Addr} {o : HO} (e : H b = some o) (h : ∀ ps, o ≠ .tbl ps) : noT H b = some o := by
  unfold noT; rw [e]
  cases o <;> first | rfl | exact absurd rfl (h _)
theorem noT_of {H : Hp} {b : Addr} {o : HO} (e : noT H b = some o) : H b = some o ∧ ∀ ps, o ≠ .tbl ps := by
  unfold noT at e
  cases q : H b with
  | none => rw [q] at e; cases e
  | some u =>
    rw [q] at e
    cases u <;> first | (cases e; exact ⟨rfl, fun ps z => nomatch z⟩) | cases e
theorem noT_none {H : Hp} {b : Addr} (e : H b = none) : noT H b = none := by unfold noT; rw [e]
theorem RowsAt.noT {H : Hp} {r : Addr} {rows : List (K3 × Eff)} (h : RowsAt H r rows) : RowsAt (noT H) r rows := by
  obtain ⟨kvs, h1, h2⟩ := h
  exact ⟨kvs, noT_get h1 (fun _ z => nomatch z), h2.tup fun x xs q => noT_get q (fun _ z => nomatch z)⟩
theorem PlanAt.noT {H : Hp} {pl s t r c : Addr} {B : Bk} (h : PlanAt H pl s t r c B) : PlanAt (noT H) pl s t r c B :=
  ⟨noT_get h.pl (fun _ z => nomatch z), noT_get h.s (fun _ z => nomatch z), noT_get h.t (fun _ z => nomatch z), h.r.noT, noT_get (show H c = _ from h.c) (fun _ z => nomatch z)⟩
theorem BookAt.noT {C : Addr} {H : Hp} {p : Addr} {B : Bk} (h : BookAt C H p B) : BookAt C (noT H) p B := by
  obtain ⟨dx, s, t, e, w, tr, h1, h2, h3, h4, h5⟩ := h
  exact ⟨dx, s, t, e, w, tr, noT_get h1 (fun _ z => nomatch z), noT_get h2 (fun _ z => nomatch z), noT_get h3 (fun _ z => nomatch z), h4.noT, noT_get (show H w = _ from h5) (fun _ z => nomatch z)⟩
/-- all but the tables and the draws' list stays -/
def ButN (d : Addr) (H H' : Hp) : Prop := ∀ b o, b ≠ d → (∀ ps, o ≠ .tbl ps) → H b = some o → H' b = some o
theorem ButN.refl {d : Addr} {H : Hp} : ButN d H H := fun _ _ _ _ e => e
theorem ButN.but {d : Addr} {H H1 H2 : Hp} (x : ButN d H H1) (b : But d H1 H2) : ButN d H H2 := fun a o n t e => b a o n (x a o n t e)
theorem ButN.same {d : Addr} {H H1 H2 : Hp} (x : ButN d H H1) (b : Same H1 H2) : ButN d H H2 := fun a o n t e => b a o (x a o n t e)
theorem ButN.ext {d : Addr} {H H1 H2 : Hp} (x : ButN d H H1) (b : ExtN H1 H2) : ButN d H H2 := fun a o n t e => b a o (x a o n t e) t
theorem ExtN.butN {d : Addr} {H H1 H2 : Hp} (x : ExtN H H1) (b : ButN d H1 H2) (hd : H d = none) : ExtN H H2 := fun a o e t => b a o (ne_of_none e hd) t (x a o e t)
theorem ExtN.seqL {K : PySem.W.Frag} {H H' : Hp} {a : Addr} {xs : List V} (x : ExtN H H') (h : SqL K H a xs) : SqL K H' a xs := by
  rcases h with (h | ⟨o, h⟩) | h
  · exact .inl (.inl (x _ _ h fun _ z => nomatch z))
  · exact .inl (.inr ⟨o, x _ _ h fun _ z => nomatch z⟩)
  · exact .inr h
theorem Dr.ext {H H' : Hp} {d : Addr} (x : ExtN H H') (h : Dr H d) : Dr H' d := let ⟨a, b, c, e⟩ := h; ⟨a, b, c, x _ _ e fun _ z => nomatch z⟩
theorem Odd.ext {K : PySem.W.Frag} {H H' : Hp} {x : V} {d : PyData} (o : Odd K H x d) (h : Dp K H' x d) : Odd K H' x d := ⟨h, o.pl, o.de, o.wd, o.sh⟩
theorem DevAt.butN {C v c l tb bk d : Addr} {H H' : Hp} {D : Dv} (dv : DevAt C H v c l tb bk D) (b : ButN d H H') (nv : v ≠ d) (nc : c ≠ d) (nl : l ≠ d) (nt : tb ≠ d) (nt' : ∀ a xs, H a = some (.tup xs) → a ≠ d) : DevAt C H' v c l tb bk D := by
  obtain ⟨⟨dx, h1⟩, ⟨kvs, h2, h3⟩, ⟨xs, h4, h5⟩, ⟨ys, h6, h7⟩, ne⟩ := dv
  have tu : ∀ a xs, H a = some (.tup xs) → H' a = some (.tup xs) := fun a xs e => b _ _ (nt' a xs e) (fun _ z => nomatch z) e
  exact ⟨⟨dx, b _ _ nv (fun _ z => nomatch z) h1⟩, ⟨kvs, b _ _ nc (fun _ z => nomatch z) h2, h3.same tu⟩, ⟨xs, b _ _ nl (fun _ z => nomatch z) h4, Paired.mapP h5 fun a b q => q.same tu⟩, ⟨ys, b _ _ nt (fun _ z => nomatch z) h6, Paired.mapP h7 fun a b ⟨t, q1, q2⟩ => ⟨t, q1, tu _ _ q2⟩⟩, ne⟩
theorem BackAt.butN {d n : Addr} {H H' : Hp} {back : List Letter} (h : BackAt H n back) (b : ButN d H H') (nx : n ≠ d) (nt' : ∀ a xs, H a = some (.tup xs) → a ≠ d) : BackAt H' n back :=
  let ⟨xs, h1, h2⟩ := h; ⟨xs, b _ _ nx (fun _ z => nomatch z) h1, Paired.mapP h2 fun _ _ ⟨t, q1, q2⟩ => ⟨t, q1, b _ _ (nt' _ _ q2) (fun _ z => nomatch z) q2⟩⟩
theorem Tabs.but {T : List (Addr × Str)} {d : Addr} {H H' : Hp} (t : Tabs T H) (b : But d H H') (hd : Dr H d) : Tabs T H' := fun p hp => by
  obtain ⟨a1, a2, a3, hdd⟩ := hd
  obtain ⟨ps, h1, h2, h3⟩ := t p hp
  have nx : ∀ {x : Addr} {o : HO}, H x = some o → (∀ xs, o ≠ .lst xs) → x ≠ d := fun e n z => by rw [z, hdd] at e; injection e with e; exact n _ e.symm
  refine ⟨ps, b _ _ (nx h1 fun _ z => nomatch z) h1, h2, fun po cv hc => ?_⟩
  obtain ⟨c, e1, e2⟩ := h3 po cv hc
  exact ⟨c, e1, b _ _ (nx e2 fun _ z => (by unfold CodeO at z; cases z)) e2⟩
theorem Tabs.fr {T : List (Addr × Str)} {H H' : Hp} (t : Tabs T H) (k : ∀ b o, (∀ C dx fs, o ≠ .ins C dx fs) → (∀ xs, o ≠ .lst xs) → (∀ kvs, o ≠ .dK kvs) → H b = some o → H' b = some o) : Tabs T H' := fun p hp => by
  obtain ⟨ps, h1, h2, h3⟩ := t p hp
  refine ⟨ps, k _ _ (fun _ _ _ z => nomatch z) (fun _ z => nomatch z) (fun _ z => nomatch z) h1, h2, fun po cv hc => ?_⟩
  obtain ⟨c, e1, e2⟩ := h3 po cv hc
  exact ⟨c, e1, k _ _ (fun _ _ _ z => (by unfold CodeO at z; cases z)) (fun _ z => (by unfold CodeO at z; cases z)) (fun _ z => (by unfold CodeO at z; cases z)) e2⟩
/-! ### a def whose code object is known -/
structure FunC (K : PySem.W.Frag) (x qual : Str) (st : Stmt) (f : Addr) (fd : FuncData) (cd : Addr) : Prop where
  ex : ∃ (oc : Value) (od : Option Addr) (kV doc pm : Value) (an : Option Addr) (ct : Value) (osl : Array (Option Value)),
    fd = PySem.W.fnOf x qual (defArgs st) (defBody st) (defScope st) .none kV doc pm an (.ref cd) ct ∧ K.lookup f = some ⟨oc, od, .func fd, osl⟩ ∧ PySem.W.codeIn K (.ref cd) qual = true
  kp : PySem.W.keepIn K (.ref f) = true
section
variable {P : Program} {w : World} {K : PySem.W.Frag} {mg : Str → Option Value} {base : Heap}
theorem FunC.ok {x qual : Str} {st : Stmt} {f cd : Addr} {fd : FuncData} {N ps : List Str} {k : Nat} {sp : Sp} (F : FunC K x qual st f fd cd) (S : FnScope N ps (defScope st)) (len : ∀ vs H Q E, sp vs H Q E → vs.length = ps.length)
    (hbody : ∀ (A : Around) (outer : List Env) (s : Shared) (H : Hp) (vs : List V) (Q : VK) (E : L2.XK), Room k (A.deeper (envOfC qual (defScope st) s.heap.objs.size f (.ref cd))) → sp vs H Q E →
      ∃ t, PSs (cxOf CX0 P w K mg base N qual (defScope st) f (.ref cd) A outer s H E).nox (defBody st) t ∧ t { nx := fun _ H' => Q .non H', rt := Q } (L2.start N vs) H) : FnOk P w K mg base CX0 (k + 1) f fd ps sp := by
  obtain ⟨oc, od, kV, doc, pm, an, ct, osl, rfl, lk, hcd⟩ := F.ex
  exact fn_of lk hcd S len fun A outer s H vs Q E hr hsp => let ⟨t, h, q⟩ := hbody A outer s H vs Q E hr hsp; ⟨t, h.nox, q⟩
end
/-! ### data of letters -/
theorem letD_plain (ls : List Letter) : plainD (.list (ls.map letD)) = true := by
  rw [plainD]
  refine plainDL_of fun d hd => ?_
  obtain ⟨p, _, rfl⟩ := List.mem_map.mp hd
  simp [letD, plainD, plainDL]
theorem letD_lay : ∀ {ls : List Letter}, (∀ a ∈ ls, isWord a.1 = true ∧ isWord a.2.1 = true) → PyData.canLayAll0 (ls.map letD) = true ∧ PyData.depthAll (ls.map letD) ≤ 1
  | [], _ => ⟨rfl, Nat.zero_le _⟩
  | a :: ls, h => by
    obtain ⟨h1, h2⟩ := letD_lay fun y hy => h y (List.mem_cons_of_mem _ hy)
    obtain ⟨w1, w2⟩ := h a List.mem_cons_self
    rw [List.map_cons]
    refine ⟨by simp [PyData.canLayAll0, letD, PyData.canLay0, word_ok w1, word_ok w2, h1], ?_⟩
    simp only [PyData.depthAll, letD, PyData.depth]
    omega
theorem letD_shaped {ls : List Letter} (h : ∀ a ∈ ls, isWord a.1 = true ∧ isWord a.2.1 = true) : SeqAt.shaped (.list (ls.map letD)) = true := by
  obtain ⟨h1, h2⟩ := letD_lay h
  have : PyData.depthAll (ls.map letD) + 1 ≤ 64 := by omega
  simp [SeqAt.shaped, PyData.canLay0, PyData.depth, h1, this]
theorem letD_eqv (ls : List Letter) : PyData.eqv (.list (ls.map letD)) (.list []) = decide (ls = []) := by
  cases ls <;> simp [PyData.eqv, PyData.eqvAll]
theorem letD_dep (ls : List Letter) : dep (.list (ls.map letD)) < 5 := by
  have : depL (ls.map letD) ≤ 1 := depL_le fun d hd => by
    obtain ⟨p, _, rfl⟩ := List.mem_map.mp hd
    simp [letD, dep, depL]
  rw [dep]; omega
theorem letD_wd (ls : List Letter) (h : ls.length ≤ 1000) : wd (.list (ls.map letD)) ≤ 1000000 := by
  have : wdL (ls.map letD) ≤ 10 := wdL_le fun d hd => by
    obtain ⟨p, _, rfl⟩ := List.mem_map.mp hd
    simp [letD, wd, wdL]
  rw [wd, List.length_map]; omega
/-- what a device tells -/
def obsD (B : Bk) (D : Dv) (ys : List Str) : PyData := .list [.int D.badge, .list (D.past.map fun p => letD p.letter), .str (cellOf B D "a").1, (match (cellOf B D "a").2 with | none => .none | some n => .int n), .list (ys.map .str)]
end HN

namespace HN
open PySem PySem.Spec PyProof.Rows L2 LamX
inductive FlatV : V → PyData → Prop
  | non : FlatV .non .none
  | bl (b : Bool) : FlatV (.bl b) (.bool b)
  | int (i : Int) : FlatV (.int i) (.int i)
  | str (z : Str) (h : PyData.strOk z = true) : FlatV (.str z) (.str z)
theorem FlatV.dp {K : PySem.W.Frag} {H : Hp} {x : V} {d : PyData} (h : FlatV x d) : Dp K H x d := by
  cases h
  · exact .non
  · exact .bl _
  · exact .int _
  · exact .str _
theorem FlatV.odd {K : PySem.W.Frag} {H : Hp} {x : V} {d : PyData} (h : FlatV x d) : Odd K H x d := by
  refine odd_flat h.dp ?_
  cases h <;> first | rfl | assumption
inductive XAt (H : Hp) : V → PyData → Prop
  | flat {x : V} {d : PyData} (h : FlatV x d) : XAt H x d
  | tup {t : Addr} {e : V} {de : PyData} (h : FlatV e de) (ht : H t = some (.tup [e])) : XAt H (.ref t) (.tuple [de])
  | lst {t : Addr} {e : V} {de : PyData} (h : FlatV e de) (ht : H t = some (.lst [e])) : XAt H (.ref t) (.list [de])
theorem dr_len {H : Hp} {d x : Addr} {xs : List V} (hd : Dr H d) (h : H x = some (.lst xs)) (n : xs.length ≠ 3) : x ≠ d := fun z => by
  obtain ⟨a, b, c, e⟩ := hd
  rw [z, e] at h
  injection h with h; injection h with h
  rw [← h] at n
  exact n rfl
theorem XAt.keep {H H' : Hp} {x : V} {dx : PyData} {d : Addr} (h : XAt H x dx) (hd : Dr H d) (b : ButN d H H') : XAt H' x dx := by
  cases h with
  | flat h => exact .flat h
  | tup h ht => exact .tup h (b _ _ (dr_tup hd ht) (fun _ z => nomatch z) ht)
  | lst h ht => exact .lst h (b _ _ (dr_len hd ht (by simp)) (fun _ z => nomatch z) ht)
theorem XAt.odd {K : PySem.W.Frag} {H : Hp} {x : V} {dx : PyData} (h : XAt H x dx) : Odd K H x dx := by
  cases h with
  | flat h => exact h.odd
  | @tup t e de h ht =>
    have o : Odd K H e de := h.odd
    refine ⟨.tup (SqT.of ht) (.cons h.dp .nil), by simp [plainD, plainDL, o.pl], ?_, ?_, ?_⟩
    · cases h <;> simp [dep, depL]
    · cases h <;> simp [HN.wd, wdL]
    · cases h <;> simp_all [SeqAt.shaped, PyData.canLay0, PyData.canLayAll0, PyData.depth, PyData.depthAll]
  | @lst t e de h ht =>
    have o : Odd K H e de := h.odd
    refine ⟨.lst (SqL.of ht) (.cons h.dp .nil), by simp [plainD, plainDL, o.pl], ?_, ?_, ?_⟩
    · cases h <;> simp [dep, depL]
    · cases h <;> simp [HN.wd, wdL]
    · cases h <;> simp_all [SeqAt.shaped, PyData.canLay0, PyData.canLayAll0, PyData.depth, PyData.depthAll]
theorem back_ne {H : Hp} {d n : Addr} {back : List Letter} (hd : Dr H d) (h : BackAt H n back) : n ≠ d := fun z => by
  obtain ⟨a, b, c, e⟩ := hd
  obtain ⟨xs, h1, h2⟩ := h
  rw [z, e] at h1
  injection h1 with h1; injection h1 with h1
  subst h1
  cases h2 with
  | cons p _ => obtain ⟨t, q, _⟩ := p; cases q
theorem past_ne {H : Hp} {d n : Addr} {past : List Past} (hd : Dr H d) (h : PastAt H n past) : n ≠ d := fun z => by
  obtain ⟨a, b, c, e⟩ := hd
  obtain ⟨xs, h1, h2⟩ := h
  rw [z, e] at h1
  injection h1 with h1; injection h1 with h1
  subst h1
  cases h2 with
  | cons p _ => obtain ⟨t, _, _, q, _⟩ := p; cases q
theorem DevAt.keepN {C v c l tb bk d : Addr} {H H' : Hp} {D : Dv} (dv : DevAt C H v c l tb bk D) (hd : Dr H d) (b : ButN d H H') : DevAt C H' v c l tb bk D := by
  obtain ⟨dx, hv⟩ := dv.ob
  obtain ⟨kv, hc, _⟩ := dv.ce
  obtain ⟨a1, a2, a3, e⟩ := id hd
  exact dv.butN b (ne_of hv e (fun z => nomatch z)) (ne_of hc e (fun z => nomatch z)) (past_ne hd dv.pa) (back_ne hd dv.ba) fun a xs q => dr_tup hd q
theorem BackAt.keepN {d n : Addr} {H H' : Hp} {back : List Letter} (h : BackAt H n back) (hd : Dr H d) (b : ButN d H H') : BackAt H' n back := h.butN b (back_ne hd h) fun a xs q => dr_tup hd q
/-! ### a step and the way back -/
theorem cAt_key {cells : List (Str × Cell)} {k : Str} {p : Str × Cell} (nd : (cells.map (·.1)).Nodup) (hp : p ∈ cells) (e : p.1 = k) : cAt cells k = some p.2 := by
  induction cells with
  | nil => cases hp
  | cons q cells ih =>
    rw [cAt_cons]
    rw [List.map_cons, List.nodup_cons] at nd
    rcases List.mem_cons.mp hp with rfl | hp
    · rw [if_pos e]
    · rw [if_neg fun z => nd.1 (by rw [z, ← e]; exact List.mem_map_of_mem hp)]
      exact ih nd.2 hp
theorem back_put {cells : List (Str × Cell)} {k : Str} {c : Cell} (nd : (cells.map (·.1)).Nodup) : backCells (cPut cells k c) k (cAt cells k) = cells := by
  cases h : cAt cells k with
  | none =>
    have out := cAt_out h
    have ne : ∀ p ∈ cells, ¬ p.1 = k := fun p hp e => out (e ▸ List.mem_map_of_mem hp)
    show cDrop (cPut cells k c) k = cells
    unfold cPut cDrop
    have : (cells.any fun p => decide (p.1 = k)) = false := by
      rw [List.any_eq_false]
      intro p hp
      simpa using ne p hp
    rw [this, if_neg Bool.false_ne_true, List.filter_append, List.filter_eq_self.mpr (fun p hp => by simpa using ne p hp)]
    simp
  | some ce =>
    have hm := cAt_mem h
    show cPut (cPut cells k c) k ce = cells
    have any1 : (cells.any fun p => decide (p.1 = k)) = true := List.any_eq_true.mpr ⟨_, hm, by simp⟩
    have e1 : cPut cells k c = cells.map fun p => if p.1 = k then (p.1, c) else p := by unfold cPut; rw [if_pos any1]
    rw [e1]
    unfold cPut
    have any2 : ((cells.map fun p => if p.1 = k then (p.1, c) else p).any fun p => decide (p.1 = k)) = true := by
      rw [List.any_map]
      refine List.any_eq_true.mpr ⟨_, hm, ?_⟩
      simp
    rw [if_pos any2, List.map_map]
    conv => rhs; rw [← List.map_id cells]
    apply List.map_congr_left
    intro p hp
    show (if (if p.1 = k then (p.1, c) else p).1 = k then ((if p.1 = k then (p.1, c) else p).1, ce) else (if p.1 = k then (p.1, c) else p)) = p
    by_cases e : p.1 = k
    · rw [if_pos e]
      show (if p.1 = k then (p.1, ce) else (p.1, c)) = p
      rw [if_pos e]
      have := cAt_key nd hp e
      rw [h] at this
      obtain ⟨p1, p2⟩ := p
      injection this with this
      exact congrArg _ this
    · rw [if_neg e, if_neg e]
theorem undo_take {B : Bk} {D : Dv} {a : Letter} (nd : (D.cells.map (·.1)).Nodup) : undoD (takeD B D a) ⟨a, cAt D.cells a.1, D.badge⟩ = { D with back := [a] } := by
  unfold undoD takeD stepD
  simp [back_put nd]
theorem undo_in {B : Bk} {D : Dv} {a : Letter} : cAt D.cells a.1 = none → a.1 ∈ (takeD B D a).cells.map (·.1) := fun h => by
  show a.1 ∈ (cPut D.cells a.1 _).map (·.1)
  rw [cPut_keys, if_neg (cAt_out h)]
  simp
/-! ### the due answer, in one -/
def DueV (sorts : List Str) (x : V) (dx : PyData) (y : V) (dy : PyData) (z : V) (dz : PyData) (u : V) (H : Hp) : Prop :=
  u = .non ∨ ∃ (p : Addr) (tag : Str) (q : V), u = .ref p ∧ H p = some (.tup [.str tag, q]) ∧ ((tag = "key" ∧ q = x ∧ lawWord dx = false) ∨ (tag = "sort" ∧ q = y ∧ lawWord dx = true ∧ lawSort sorts dy = false) ∨ (tag = "number" ∧ q = z ∧ lawWord dx = true ∧ lawSort sorts dy = true ∧ dInt dz = false))
def spDue2 (K : PySem.W.Frag) : Sp := fun vs H Q _ => ∃ (pl s t r c : Addr) (B : Bk) (x y z : V) (dx dy dz : PyData), vs = [.ref pl, x, y, z] ∧ PlanAt H pl s t r c B ∧ Dp K H x dx ∧ TxtD dx ∧ Dp K H y dy ∧ Dp K H z dz ∧ ∀ u H', Same H H' → DueV B.sorts x dx y dy z dz u H' → Q u H'
theorem due2 {K : PySem.W.Frag} (vs : List V) (H : Hp) (Q : VK) (E : L2.XK) (h : spDue2 K vs H Q E) : spDue K vs H Q E := by
  obtain ⟨pl, s, t, r, c, B, x, y, z, dx, dy, dz, e, hP, hx, tx, hy, hz, k⟩ := h
  exact ⟨pl, s, t, r, c, B, x, y, z, dx, dy, dz, e, hP, hx, tx, hy, hz, fun a p H' s hp => k _ _ s (.inr ⟨p, _, _, rfl, hp, .inl ⟨rfl, rfl, a⟩⟩), fun a b p H' s hp => k _ _ s (.inr ⟨p, _, _, rfl, hp, .inr (.inl ⟨rfl, rfl, a, b⟩)⟩),
    fun a b c' p H' s hp => k _ _ s (.inr ⟨p, _, _, rfl, hp, .inr (.inr ⟨rfl, rfl, a, b, c'⟩)⟩), fun _ _ _ H' s => k _ _ s (.inl rfl)⟩
end HN

namespace HN
open PySem PySem.Spec PyProof.Rows L2 LamX
theorem if_join {T : TT} {a b R : TS} {D : Ends} {σ : L2.St} {H : Hp} (h : ∃ I : Hp → Prop, (∀ H', I H' → R D σ H') ∧ ((∀ H', I H' → R D σ H') → tIfS T a b { D with nx := R D } σ H)) : tSeq (tIfS T a b) R D σ H := by
  obtain ⟨I, h1, h2⟩ := h
  exact h2 h1
def obsE (B : Bk) (D : Dv) (ys : List Str) : PyData := .list [.int D.badge, .list ((D.past.map (·.letter)).map letD), .str (cellOf B D "a").1, (match (cellOf B D "a").2 with | none => .none | some n => .int n), .list (ys.map .str)]
theorem dep_hv2 (o : Option Int) : dep (match o with | none => PyData.none | some n => .int n) = 0 ∧ HN.wd (match o with | none => PyData.none | some n => .int n) = 0 ∧ plainD (match o with | none => PyData.none | some n => .int n) = true := by cases o <;> simp [dep, HN.wd, plainD]
theorem strs3 : ∀ ys : List Str, depL (ys.map PyData.str) = 0 ∧ wdL (ys.map PyData.str) = 0 ∧ plainDL (ys.map PyData.str) = true
  | [] => ⟨rfl, rfl, rfl⟩
  | y :: ys => by
    obtain ⟨h1, h2, h3⟩ := strs3 ys
    rw [List.map_cons]
    simp [depL, wdL, plainDL, dep, HN.wd, plainD, h1, h2, h3]
theorem obsE_plain (B : Bk) (D : Dv) (ys : List Str) : plainD (obsE B D ys) = true := by
  have h1 : plainDL ((D.past.map (·.letter)).map letD) = true := by have := letD_plain (D.past.map (·.letter)); rwa [plainD] at this
  rw [List.map_map] at h1
  simp [obsE, plainD, plainDL, h1, (strs3 ys).2.2, (dep_hv2 (cellOf B D "a").2).2.2]
theorem obsE_dep (B : Bk) (D : Dv) (ys : List Str) : dep (obsE B D ys) < 5 := by
  have h1 : depL ((D.past.map (·.letter)).map letD) ≤ 1 := depL_le fun d hd => by
    obtain ⟨p, _, rfl⟩ := List.mem_map.mp hd
    simp [letD, dep, depL]
  simp only [obsE, dep, depL, (strs3 ys).1, (dep_hv2 (cellOf B D "a").2).1]
  omega
theorem obsE_wd (B : Bk) (D : Dv) (ys : List Str) (l1 : D.past.length ≤ 1000) (l2 : ys.length ≤ 1000) : HN.wd (obsE B D ys) ≤ 1000000 := by
  have h1 : wdL ((D.past.map (·.letter)).map letD) ≤ 10 := wdL_le fun d hd => by
    obtain ⟨p, _, rfl⟩ := List.mem_map.mp hd
    simp [letD, HN.wd, wdL]
  simp only [obsE, HN.wd, wdL, (strs3 ys).2.1, (dep_hv2 (cellOf B D "a").2).2.1, List.length_map, List.length_cons, List.length_nil]
  omega
theorem tag_odd {K : PySem.W.Frag} {H : Hp} {p : Addr} {tag : Str} {u : V} {d : PyData} (h : H p = some (.tup [.str tag, u])) (x : XAt H u d) : Dp K H (.ref p) (.tuple [.str tag, d]) := .tup (SqT.of h) (.cons (.str _) (.cons x.odd.dp .nil))
theorem tag_dep {tag : Str} {d : PyData} (h : dep d ≤ 1) : dep (.tuple [.str tag, d]) < 5 := by simp only [dep, depL]; omega
theorem tag_wd {tag : Str} {d : PyData} (h : wd d ≤ 100) : wd (.tuple [.str tag, d]) ≤ 1000000 := by simp only [wd, wdL, List.length]; omega
theorem tag_plain {tag : Str} {d : PyData} (h : plainD d = true) : plainD (.tuple [.str tag, d]) = true := by simp [plainD, plainDL, h]
theorem if_joinT {T : TT} {a b R : TS} {D : Ends} {σ : L2.St} {H : Hp} {rt : VK} {bk ct : L2.St → Hp → Prop} (h : ∃ I : Hp → Prop, (∀ H', I H' → R D σ H') ∧ ((∀ H', I H' → R D σ H') → tIfS T a b { D with nx := R D } σ H)) : tNext { nx := tSeq (tIfS T a b) R D, rt := rt, bk := bk, ct := ct } σ H := if_join h
theorem pe_conv {X : Cx} {e : Expr} {t t2 : TE} (he : PE X e t) (h : ∀ σ H Q, t2 σ H Q → t σ H Q) : PE X e t2 := ⟨fun pins s σ H Q I q => he.run pins s σ H Q I (h σ H Q q)⟩
def TObs (C Cb : Addr) : TE := fun σ H Q => ∃ (v c l tb bk : Addr) (D : Dv) (B : Bk), σ[4]? = some (some (.ref v)) ∧ DevAt C H v c l tb bk D ∧ BookAt Cb H bk B ∧ D.past.length ≤ 1000 ∧ D.cells.length < 64 ∧
  ∀ q ql qm ys H', Same H H' → H q = none → H ql = none → H qm = none → H' q = some (.lst [.int D.badge, .ref ql, .str (cellOf B D "a").1, HN.hv (cellOf B D "a").2, .ref qm]) → BackAt H' ql (D.past.map (·.letter)) → H' qm = some (.lst (ys.map V.str)) → IsSort (D.cells.map (·.1)) ys → Q (.ref q) H'
abbrev lamQ : Str := ("law" : Str) ++ ".<locals>." ++ "<lambda>"
abbrev Tb (Pt : Addr) : List (Addr × Str) := [(Pt, lamQ)]
theorem tb_one (Pt : Addr) : ∀ p ∈ Tb Pt, p.1 = Pt → p.2 = lamQ := fun p hp _ => by
  rw [List.mem_singleton] at hp
  rw [hp]
theorem isWord_a : isWord "a" = true := by decide +kernel
def spLaw11 (K : PySem.W.Frag) (Pt : Addr) : Sp := fun vs H Q _ => ∃ (a : Addr) (ns : List Int), vs = [.ref a] ∧ SqL K H a (ns.map V.int) ∧ ns.length ≤ 100 ∧ Tabs (Tb Pt) H ∧ ∀ H', Q (.bl true) H'
abbrev nmLaw : List Str := ["_law_script", "_law_turn", "_law_draws", "_law_plan", "_law_device", "_law_sort", "_law_number", "_law_taken", "_law_before", "_law_again", "_law_key", "_law_due_here"]
theorem scLaw : FnScope nmLaw ["_law_script"] (defScope sLaw) := ⟨rfl, rfl, rfl, by decide +kernel, rfl, by decide +kernel, by decide +kernel⟩
def Hist (B : Bk) (D : Dv) : Prop := D = ⟨[], 0, [], []⟩ ∨ ∃ Dp a, D = takeD (toldB B) Dp a ∧ GoodDv (toldB B) Dp ∧ Dp.past.length < 1000 ∧ isWord a.1 = true ∧ a.2.1 ∈ B.sorts
def Words (D : Dv) : Prop := ∀ p ∈ D.past, isWord p.letter.1 = true ∧ isWord p.letter.2.1 = true
/-- behind the letters, the last one taken back: what stood, and what is to come anew -/
def Away (B : Bk) (L : List Letter) (D : Dv) : Prop := (L = [] ∧ D.past = []) ∨ ∃ a, D.back = [a] ∧ L = D.past.map (·.letter) ++ [a] ∧ isWord a.1 = true ∧ a.2.1 ∈ B.sorts
/-- one turn of the law: the device, and what stands beside it -/
structure Md (C : Addr) (Ha H0 : Hp) (Pt d v c l bk : Addr) (B : Bk) (H : Hp) (tb : Addr) (D : Dv) : Prop where
  dr : Dr H d
  dev : DevAt C H v c l tb bk D
  un : Under H0 H v c l tb
  gd : GoodDv (toldB B) D
  tabs : Tabs (Tb Pt) H
  xa : Same Ha H
  at_ : Ha tb = none
/-- what does not change in a turn -/
structure Fx (Cb : Addr) (Ha H0 : Hp) (d v c l bk pl s t r cc : Addr) (B : Bk) : Prop where
  hB : BookAt Cb H0 bk (toldB B)
  hP : PlanAt H0 pl s t r cc B
  gB : GoodBk B
  ok : OkB (toldB B)
  fd : H0 d = none
  nt : ∀ b o, H0 b = some o → ∀ ps, o ≠ .tbl ps
  nta : ∀ b o, Ha b = some o → ∀ ps, o ≠ .tbl ps
  ad : Ha d = none
  av : Ha v = none
  ac : Ha c = none
  al : Ha l = none
section
variable {C Cb : Addr} {Ha H0 : Hp} {Pt d v c l bk pl s t r cc : Addr} {B : Bk} {H H' : Hp} {tb : Addr} {D : Dv}
theorem Md.same (m : Md C Ha H0 Pt d v c l bk B H tb D) (x : Same H H') : Md C Ha H0 Pt d v c l bk B H' tb D :=
  ⟨m.dr.same x, m.dev.tups x, m.un.same' x, m.gd, m.tabs.ext x, m.xa.trans x, m.at_⟩
theorem Md.butN (m : Md C Ha H0 Pt d v c l bk B H tb D) (f : Fx Cb Ha H0 d v c l bk pl s t r cc B) (x : ButN d H H') (hd : Dr H' d) (tt : Tabs (Tb Pt) H') : Md C Ha H0 Pt d v c l bk B H' tb D :=
  ⟨hd, m.dev.keepN m.dr x, ⟨fun b o e => x b o (ne_of_none e f.fd) (f.nt b o e) (m.un.same _ _ e), m.un.nv, m.un.nc, m.un.nl, m.un.nt⟩, m.gd, tt, fun b o e => x b o (ne_of_none e f.ad) (f.nta b o e) (m.xa _ _ e), m.at_⟩
theorem Md.draw (m : Md C Ha H0 Pt d v c l bk B H tb D) (f : Fx Cb Ha H0 d v c l bk pl s t r cc B) (x : But d H H') (hd : Dr H' d) : Md C Ha H0 Pt d v c l bk B H' tb D :=
  m.butN f (ButN.refl.but x) hd (Tabs.but m.tabs x m.dr)
theorem Md.fr4 {D' : Dv} (m : Md C Ha H0 Pt d v c l bk B H tb D) (f : Fx Cb Ha H0 d v c l bk pl s t r cc B) (x : Fr4 v c l tb H H') (dv : DevAt C H' v c l tb bk D') (gd : GoodDv (toldB B) D') : Md C Ha H0 Pt d v c l bk B H' tb D' := by
  obtain ⟨dx, hv⟩ := m.dev.ob
  obtain ⟨kv, hc, _⟩ := m.dev.ce
  obtain ⟨xl, hl, _⟩ := id m.dev.pa
  obtain ⟨yl, ht, _⟩ := id m.dev.ba
  obtain ⟨a1, a2, a3, e⟩ := id m.dr
  refine ⟨⟨a1, a2, a3, x _ _ (ne_of e hv (fun z => nomatch z)) (ne_of e hc (fun z => nomatch z)) (past_ne m.dr m.dev.pa).symm (back_ne m.dr m.dev.ba).symm e⟩, dv, m.un.fr4 x, gd, Tabs.fr m.tabs (fun b o n1 n2 n3 q => x b o (fun z => ?_) (fun z => ?_) (fun z => ?_) (fun z => ?_) q), fun b o q => x b o (ne_of_none q f.av) (ne_of_none q f.ac) (ne_of_none q f.al) (ne_of_none q m.at_) (m.xa b o q), m.at_⟩
  · rw [z, hv] at q; injection q with q; exact n1 _ _ _ q.symm
  · rw [z, hc] at q; injection q with q; exact n3 _ q.symm
  · rw [z, hl] at q; injection q with q; exact n2 _ q.symm
  · rw [z, ht] at q; injection q with q; exact n2 _ q.symm
theorem Md.fr3 {D' : Dv} {tb' : Addr} (m : Md C Ha H0 Pt d v c l bk B H tb D) (f : Fx Cb Ha H0 d v c l bk pl s t r cc B) (x : Fr3 v c l H H') (dv : DevAt C H' v c l tb' bk D') (un : Under H0 H' v c l tb') (gd : GoodDv (toldB B) D') (nt : H tb' = none) : Md C Ha H0 Pt d v c l bk B H' tb' D' := by
  obtain ⟨dx, hv⟩ := m.dev.ob
  obtain ⟨kv, hc, _⟩ := m.dev.ce
  obtain ⟨xl, hl, _⟩ := id m.dev.pa
  obtain ⟨a1, a2, a3, e⟩ := id m.dr
  refine ⟨⟨a1, a2, a3, x _ _ (ne_of e hv (fun z => nomatch z)) (ne_of e hc (fun z => nomatch z)) (past_ne m.dr m.dev.pa).symm e⟩, dv, un, gd, Tabs.fr m.tabs (fun b o n1 n2 n3 q => x b o (fun z => ?_) (fun z => ?_) (fun z => ?_) q), fun b o q => x b o (ne_of_none q f.av) (ne_of_none q f.ac) (ne_of_none q f.al) (m.xa b o q), m.xa.free nt⟩
  · rw [z, hv] at q; injection q with q; exact n1 _ _ _ q.symm
  · rw [z, hc] at q; injection q with q; exact n3 _ q.symm
  · rw [z, hl] at q; injection q with q; exact n2 _ q.symm
end
section
variable {P : Program} {w : World} {K : PySem.W.Frag} {mg : Str → Option Value} {base : Heap}
theorem ok_law {f fSo fPl fBO fV fSR fP fDu fTr fSm fTk fL fU fBd fSt fHd fM fAg C Cb CK CS CN fK1 fS1 fN1 cd Pt : Addr} {fd fdSo fdPl fdBO fdV fdSR fdP fdDu fdTr fdSm fdTk fdL fdU fdBd fdSt fdHd fdM fdAg fdK1 fdS1 fdN1 : FuncData}
    (F : FunC K "law" "law" sLaw f fd cd) (T : Txt K mg) (DC : DevC K mg C) (BC : BookC K mg Cb) (MV : Mk K C fV)
    (DSo : Def K mg "_law_source" sSource ["_law_script", "_law_place"] fSo fdSo) (GSo : FnOk P w K mg base CX0 1 fSo fdSo ["_law_script", "_law_place"] (spSource K))
    (DPl : Def K mg "_law_some_plan" sPlan ["_law_draws"] fPl fdPl) (GPl : FnOk P w K mg base CX0 5 fPl fdPl ["_law_draws"] spWild)
    (DBO : Def K mg "_law_book_of" sBookOf ["_law_plan"] fBO fdBO) (GBO : FnOk P w K mg base CX0 8 fBO fdBO ["_law_plan"] (spBookOf K Cb))
    (bV : Binds K fdV ["self", "book"] []) (GV : FnOk P w K mg base CX0 1 fV fdV ["self", "book"] (spVInit C))
    (DSR : Def K mg "_law_some_row" sLSomeRow ["_law_draws", "_law_plan", "_law_most", "_law_wide"] fSR fdSR) (GSR : FnOk P w K mg base CX0 3 fSR fdSR ["_law_draws", "_law_plan", "_law_most", "_law_wide"] spSomeRow)
    (DP : Def K mg "_law_pick" sPick ["_law_draws", "_law_xs"] fP fdP) (GP : FnOk P w K mg base CX0 2 fP fdP ["_law_draws", "_law_xs"] (spPick K))
    (DDu : Def K mg "_law_due" sLDue ["_law_plan", "_law_key", "_law_sort", "_law_number"] fDu fdDu) (GDu : FnOk P w K mg base CX0 1 fDu fdDu ["_law_plan", "_law_key", "_law_sort", "_law_number"] (spDue2 K))
    (DTr : Def K mg "_law_tried" sLTried ["_law_work"] fTr fdTr)
    (DSm : Def K mg "_law_same" sSame ["_law_found", "_law_due_here"] fSm fdSm) (GSm : FnOk P w K mg base CX0 5 fSm fdSm ["_law_found", "_law_due_here"] (spSame K 5))
    (mTk : Meth K C "take" fTk) (bTk : Binds K fdTk ["self", "key", "sort", "number"] []) (GTk : FnOk P w K mg base CX0 5 fTk fdTk ["self", "key", "sort", "number"] (spVTake C Cb)) (GTkX : FnOk P w K mg base (L2.CX P w) 5 fTk fdTk ["self", "key", "sort", "number"] (spVTakeX K C Cb CK CS CN))
    (mL : Meth K C "letters" fL) (bL : Binds K fdL ["self"] []) (GL : FnOk P w K mg base CX0 1 fL fdL ["self"] (spVLetters C))
    (mU : Meth K C "undo" fU) (bU : Binds K fdU ["self"] []) (GU : FnOk P w K mg base CX0 1 fU fdU ["self"] (spVUndo C))
    (mBd : Meth K C "badge" fBd) (bBd : Binds K fdBd ["self"] []) (GBd : FnOk P w K mg base CX0 1 fBd fdBd ["self"] (spVBadge C))
    (mSt : Meth K C "state" fSt) (bSt : Binds K fdSt ["self", "key"] []) (GSt : FnOk P w K mg base CX0 3 fSt fdSt ["self", "key"] (spVState C Cb)) (GStX : FnOk P w K mg base (L2.CX P w) 4 fSt fdSt ["self", "key"] (spVKeyX K CK))
    (mHd : Meth K C "held" fHd) (bHd : Binds K fdHd ["self", "key"] []) (GHd : FnOk P w K mg base CX0 3 fHd fdHd ["self", "key"] (spVHeld C Cb)) (GHdX : FnOk P w K mg base (L2.CX P w) 4 fHd fdHd ["self", "key"] (spVKeyX K CK))
    (mM : Meth K C "met" fM) (bM : Binds K fdM ["self"] []) (GM : FnOk P w K mg base CX0 1 fM fdM ["self"] (spVMet C))
    (mAg : Meth K C "again" fAg) (bAg : Binds K fdAg ["self"] []) (GAg : FnOk P w K mg base CX0 5 fAg fdAg ["self"] (spVAgain C Cb))
    (EX : Exm3 K CK CS CN) (RK : ErrC P K mg "BadKey" "BadKey.__init__" "key" "key" CK fK1 fdK1) (RS : ErrC P K mg "BadSort" "BadSort.__init__" "word" "word" CS fS1 fdS1) (RN : ErrC P K mg "BadNumber" "BadNumber.__init__" "number" "number" CN fN1 fdN1)
    (TB : TabB base mg cd Pt) : FnOk P w K mg base CX0 9 f fd ["_law_script"] (spLaw11 K Pt) := by
  obtain ⟨oc3, od3, kV3, doc3, pm3, an3, cdv3, ct3, osl3, efd3, lkTr, cdTr⟩ := DTr.F.ex
  subst efd3
  refine F.ok scLaw (fun vs H Q E h => ?_) (fun A outer st H vs Q E hr h => ?_)
  · obtain ⟨a, ns, rfl, _⟩ := h
    rfl
  · obtain ⟨a, ns, rfl, hS, hlen, hT, k⟩ := h
    have hu := hu_of hr
    refine ⟨_, (pss_cons (ps_for PassesOwn.never rfl (pi_range1 rfl T.range (pa_cons (pe_op op_add pe_int (pe_callB (call_min2 rfl) (by rfl) T.min (by decide +kernel) (pa_cons (pe_callB call_len_seq (by rfl) T.len PySem.boot_len (pa_cons (pv 0) pa_nil)) (pa_cons pe_int pa_nil)))) pa_nil)) (pg_name (i := 1) scLaw.nd rfl (Or.inl rfl)) (pss_cons (ps_set (i := 2) scLaw.nd rfl (Or.inl rfl) (pe_call GSo (hr.mono (by decide)) (by rfl) DSo.m DSo.F.kp DSo.b .nil pass0 (pa_cons (pv 0) (pa_cons (pv 1) pa_nil))))
      (pss_cons (ps_set (i := 3) scLaw.nd rfl (Or.inl rfl) (pe_call GPl (hr.mono (by decide)) (by rfl) DPl.m DPl.F.kp DPl.b .nil pass0 (pa_cons (pv 2) pa_nil)))
      (pss_cons (ps_set (i := 4) scLaw.nd rfl (Or.inr rfl) (pe_make MV GV (hr.mono (by decide)) (by rfl) DC.mgC bV .nil pass0 (pa_cons (pe_call GBO (hr.mono (by decide)) (by rfl) DBO.m DBO.F.kp DBO.b .nil pass0 (pa_cons (pv 3) pa_nil)) pa_nil)))
      (pss_cons (ps_for PassesOwn.never rfl (pi_list (pe_call GSR (hr.mono (by decide)) (by rfl) DSR.m DSR.F.kp DSR.b .nil pass0 (pa_cons (pv 2) (pa_cons (pv 3) (pa_cons pe_int (pa_cons pe_int pa_nil)))))) (pg_tup rfl (pgs_cons (pg_name (i := 5) scLaw.nd rfl (Or.inr rfl)) (pgs_cons (pg_name (i := 6) scLaw.nd rfl (Or.inr rfl)) pgs_nil))) (pss_one (ps_expr (pe_meth (pv 4) DC.cl mTk GTk (hr.mono (by decide)) bTk .nil pass0 (pa_cons pe_str (pa_cons (pv 5) (pa_cons (pv 6) pa_nil)))))))
      (pss_cons (ps_set (i := 7) scLaw.nd rfl (Or.inl rfl) (pe_meth0 (pv 4) DC.cl mL GL (hr.mono (by decide)) bL .nil pass0))
      (pss_cons (ps_if (pt_cmpR (op_neD hr.units) (pv 7) (pe_lst pa_nil) (nomark _)) (pss_one (ps_expr (pe_meth0 (pv 4) DC.cl mU GU (hr.mono (by decide)) bU .nil pass0))) pss_nil)
      (pss_cons (ps_set (i := 8) scLaw.nd rfl (Or.inl rfl) (pe_conv (t2 := TObs C Cb) (pe_lst (pa_cons (pe_meth0 (pv 4) DC.cl mBd GBd (hr.mono (by decide)) bBd .nil pass0) (pa_cons (pe_meth0 (pv 4) DC.cl mL GL (hr.mono (by decide)) bL .nil pass0) (pa_cons (pe_meth (pv 4) DC.cl mSt GSt (hr.mono (by decide)) bSt .nil pass0 (pa_cons pe_str pa_nil)) (pa_cons (pe_meth (pv 4) DC.cl mHd GHd (hr.mono (by decide)) bHd .nil pass0 (pa_cons pe_str pa_nil)) (pa_cons (pe_meth0 (pv 4) DC.cl mM GM (hr.mono (by decide)) bM .nil pass0) pa_nil)))))) ?o1))
      (pss_cons (ps_for PassesOwn.never rfl (pi_range1 rfl T.range (pa_cons pe_int pa_nil)) (pg_name (i := 9) scLaw.nd rfl (Or.inl rfl)) (pss_cons (ps_set (i := 10) scLaw.nd rfl (Or.inr rfl) (pe_call GP (hr.mono (by decide)) (by rfl) DP.m DP.F.kp DP.b .nil pass0 (pa_cons (pv 2) (pa_cons (pe_lst (pa_cons pe_str (pa_cons pe_str (pa_cons pe_str (pa_cons pe_str (pa_cons pe_str (pa_cons pe_str (pa_cons pe_str (pa_cons pe_non (pa_cons pe_int (pa_cons (pe_tup (pa_cons pe_str pa_nil)) (pa_cons (pe_lst (pa_cons pe_str pa_nil)) pa_nil)))))))))))) pa_nil))))
      (pss_cons (ps_set (i := 5) scLaw.nd rfl (Or.inr rfl) (pe_call GP (hr.mono (by decide)) (by rfl) DP.m DP.F.kp DP.b .nil pass0 (pa_cons (pv 2) (pa_cons (pe_op op_cat (pe_ix ix_tup (pv 3) pe_int (fun _ _ => rfl)) (pe_lst (pa_cons pe_str (pa_cons pe_str (pa_cons pe_non (pa_cons pe_int (pa_cons (pe_tup (pa_cons (pe_ix ix_list (pe_ix ix_tup (pv 3) pe_int (fun _ _ => rfl)) pe_int (fun _ _ => rfl)) pa_nil)) (pa_cons (pe_lst (pa_cons (pe_ix ix_list (pe_ix ix_tup (pv 3) pe_int (fun _ _ => rfl)) pe_int (fun _ _ => rfl)) pa_nil)) (pa_cons pe_bl pa_nil))))))))) pa_nil))))
      (pss_cons (ps_set (i := 6) scLaw.nd rfl (Or.inr rfl) (pe_call GP (hr.mono (by decide)) (by rfl) DP.m DP.F.kp DP.b .nil pass0 (pa_cons (pv 2) (pa_cons (pe_lst (pa_cons pe_int (pa_cons pe_int (pa_cons pe_non (pa_cons pe_str (pa_cons pe_bl (pa_cons pe_bl (pa_cons (pe_tup (pa_cons pe_int pa_nil)) (pa_cons (pe_lst (pa_cons pe_int pa_nil)) pa_nil))))))))) pa_nil))))
      (pss_cons (ps_set (i := 11) scLaw.nd rfl (Or.inl rfl) (pe_call GDu (hr.mono (by decide)) (by rfl) DDu.m DDu.F.kp DDu.b .nil pass0 (pa_cons (pv 3) (pa_cons (pv 10) (pa_cons (pv 5) (pa_cons (pv 6) pa_nil))))))
      (pss_one (ps_if (pt_cmp (pc_notN (pv 11))) (pss_cons (ps_if (pt_not (pt_val (pe_call GSm (hr.mono (by decide)) (by rfl) DSm.m DSm.F.kp DSm.b .nil pass0 (pa_cons (LamX.pe_lamcall (k := 5) (T := Tb Pt) (P := Pt) (by rfl) DTr.m DTr.F.kp lkTr cdTr DTr.b scTried rfl (Or.inl rfl) (tried_gives EX RK RS RN) TB rfl List.mem_cons_self (tb_one Pt) (hr.mono (by decide)) (LamX.lamS_by (show LamX.lamSB (defScope sLaw) _ = true by decide +kernel)) rfl (fun _ _ _ _ _ => rfl) (fun A2 o2 s2 H2 E2 f2 c2 hr2 => pe_meth (pv 4) DC.cl mTk GTkX hr2 bTk .nil (passes_call (takes_of rfl rfl rfl rfl) fun _ _ _ _ z => z) (pa_cons (pv 10) (pa_cons (pv 5) (pa_cons (pv 6) pa_nil))))) (pa_cons (pv 11) pa_nil))))) (pss_one (ps_ret pe_bl)) pss_nil)
      (pss_one (ps_if (pt_cmpR op_eq (pe_ix ix_tup (pv 11) pe_int (fun _ _ => rfl)) pe_str (nomark _)) (pss_cons (ps_if (pt_not (pt_val (pe_call GSm (hr.mono (by decide)) (by rfl) DSm.m DSm.F.kp DSm.b .nil pass0 (pa_cons (LamX.pe_lamcall (k := 5) (T := Tb Pt) (P := Pt) (by rfl) DTr.m DTr.F.kp lkTr cdTr DTr.b scTried rfl (Or.inl rfl) (tried_gives EX RK RS RN) TB rfl List.mem_cons_self (tb_one Pt) (hr.mono (by decide)) (LamX.lamS_by (show LamX.lamSB (defScope sLaw) _ = true by decide +kernel)) rfl (fun _ _ _ _ _ => rfl) (fun A2 o2 s2 H2 E2 f2 c2 hr2 => pe_meth (pv 4) DC.cl mSt GStX (hr2.mono (by decide)) bSt .nil (passes_call (takes_of rfl rfl rfl rfl) fun _ _ _ _ z => z) (pa_cons (pv 10) pa_nil))) (pa_cons (pv 11) pa_nil))))) (pss_one (ps_ret pe_bl)) pss_nil)
      (pss_one (ps_if (pt_not (pt_val (pe_call GSm (hr.mono (by decide)) (by rfl) DSm.m DSm.F.kp DSm.b .nil pass0 (pa_cons (LamX.pe_lamcall (k := 5) (T := Tb Pt) (P := Pt) (by rfl) DTr.m DTr.F.kp lkTr cdTr DTr.b scTried rfl (Or.inl rfl) (tried_gives EX RK RS RN) TB rfl List.mem_cons_self (tb_one Pt) (hr.mono (by decide)) (LamX.lamS_by (show LamX.lamSB (defScope sLaw) _ = true by decide +kernel)) rfl (fun _ _ _ _ _ => rfl) (fun A2 o2 s2 H2 E2 f2 c2 hr2 => pe_meth (pv 4) DC.cl mHd GHdX (hr2.mono (by decide)) bHd .nil (passes_call (takes_of rfl rfl rfl rfl) fun _ _ _ _ z => z) (pa_cons (pv 10) pa_nil))) (pa_cons (pv 11) pa_nil))))) (pss_one (ps_ret pe_bl)) pss_nil))) pss_nil))) pss_nil)))))))
      (pss_cons (ps_if (pt_not (pt_val (pe_call GSm (hr.mono (by decide)) (by rfl) DSm.m DSm.F.kp DSm.b .nil pass0 (pa_cons (pe_conv (t2 := TObs C Cb) (pe_lst (pa_cons (pe_meth0 (pv 4) DC.cl mBd GBd (hr.mono (by decide)) bBd .nil pass0) (pa_cons (pe_meth0 (pv 4) DC.cl mL GL (hr.mono (by decide)) bL .nil pass0) (pa_cons (pe_meth (pv 4) DC.cl mSt GSt (hr.mono (by decide)) bSt .nil pass0 (pa_cons pe_str pa_nil)) (pa_cons (pe_meth (pv 4) DC.cl mHd GHd (hr.mono (by decide)) bHd .nil pass0 (pa_cons pe_str pa_nil)) (pa_cons (pe_meth0 (pv 4) DC.cl mM GM (hr.mono (by decide)) bM .nil pass0) pa_nil)))))) ?o2) (pa_cons (pv 8) pa_nil))))) (pss_one (ps_ret pe_bl)) pss_nil)
      (pss_cons (ps_if (pt_cmpR (op_neD hr.units) (pv 7) (pe_lst pa_nil) (nomark _)) (pss_one (ps_expr (pe_meth0 (pv 4) DC.cl mAg GAg (hr.mono (by decide)) bAg .nil pass0))) pss_nil)
      (pss_one (ps_if (pt_not (pt_val (pe_call GSm (hr.mono (by decide)) (by rfl) DSm.m DSm.F.kp DSm.b .nil pass0 (pa_cons (pe_meth0 (pv 4) DC.cl mL GL (hr.mono (by decide)) bL .nil pass0) (pa_cons (pv 7) pa_nil))))) (pss_one (ps_ret pe_bl)) pss_nil)))))))))))))
      (pss_one (ps_ret pe_bl))), ?_⟩
    case o1 | o2 =>
      intro σ H Q ⟨v, c, l, tb, bk, D, B, h4, hD, hB, l1, l2, k⟩
      obtain ⟨dx, hv⟩ := hD.ob
      refine ⟨.ref v, h4, v, dx, _, rfl, hv, dvF_no _ _ _ _ _ (by decide +kernel), v, c, l, tb, bk, D, rfl, hD, ?_⟩
      refine ⟨.ref v, h4, v, dx, _, rfl, hv, dvF_no _ _ _ _ _ (by decide +kernel), v, c, l, tb, bk, D, rfl, hD, l1, fun ql H1 s1 hql hb1 => ?_⟩
      refine ⟨.ref v, h4, v, dx, _, rfl, s1 _ _ hv, dvF_no _ _ _ _ _ (by decide +kernel), v, c, l, tb, bk, D, B, "a", rfl, hD.tups s1, hB.same s1, isWord_a, fun H2 s2 => ?_⟩
      have s02 := s1.trans s2
      refine ⟨.ref v, h4, v, dx, _, rfl, s02 _ _ hv, dvF_no _ _ _ _ _ (by decide +kernel), v, c, l, tb, bk, D, B, "a", rfl, hD.tups s02, hB.same s02, isWord_a, fun H3 s3 => ?_⟩
      have s03 := s02.trans s3
      refine ⟨.ref v, h4, v, dx, _, rfl, s03 _ _ hv, dvF_no _ _ _ _ _ (by decide +kernel), v, c, l, tb, bk, D, rfl, hD.tups s03, l2, fun ys qm hys hqm => ?_⟩
      have s4 := same_new (o := .lst (ys.map V.str)) hqm
      refine ⟨by show 5 ≤ sizeLine; decide, fun q hq => ?_⟩
      have s5 := same_new (o := .lst [.int D.badge, .ref ql, .str (cellOf B D "a").1, HN.hv (cellOf B D "a").2, .ref qm]) hq
      exact k q ql qm ys _ ((s03.trans s4).trans s5) ((s03.trans s4).free hq) hql (s03.free hqm) upd_same (hb1.same (((s2.trans s3).trans s4).trans s5)) (s5 _ _ upd_same) hys
    obtain ⟨N, hN, hN5⟩ : ∃ N : Nat, ((2 : Int) + (if (3 : Int) < (((ns.map V.int).length : Nat) : Int) then (3 : Int) else (((ns.map V.int).length : Nat) : Int))) = (N : Int) ∧ N ≤ 5 := by
      by_cases h : (3 : Int) < (((ns.map V.int).length : Nat) : Int)
      · rw [if_pos h]; exact ⟨5, rfl, Nat.le_refl _⟩
      · rw [if_neg h]; exact ⟨2 + (ns.map V.int).length, by omega, by omega⟩
    refine ⟨_, rfl, a, _, rfl, .inl hS, _, _, rfl, _, _, rfl, rfl, (N : Nat), by rw [← hN], by omega, by omega, for_range (lo := 0) (n := N) (fun i σ H' => ∃ k1 k2 k3 k4 k5 k6 k7 k8 k9 k10 k11, σ = [some (.ref a), k1, k2, k3, k4, k5, k6, k7, k8, k9, k10, k11] ∧ SqL K H' a (ns.map V.int) ∧ Tabs (Tb Pt) H')
      ⟨none, none, none, none, none, none, none, none, none, none, none, rfl, hS, hT⟩ (fun i0 σ Hz hi ⟨k1, k2, k3, k4, k5, k6, k7, k8, k9, k10, k11, hσ, hSz, hTz⟩ => ?_) (fun σ H' ⟨_, _, _, _, _, _, _, _, _, _, _, hσ, _⟩ => by subst hσ; exact k H')⟩
    subst hσ
    -- draws
    refine ⟨_, rfl, _, rfl, a, ns, _, rfl, hSz, by omega, by omega, fun d H1 hd1 hda s1 => ?_⟩
    -- plan
    refine ⟨_, rfl, d, rfl, hd1, fun pl s t r cc B H2 hd2 b2 hP2 gB f1 f2 f3 f4 f5 => ?_⟩
    have hT2 : Tabs (Tb Pt) H2 := Tabs.but (hTz.ext s1) b2 hd1
    obtain ⟨Ha, hHa⟩ : ∃ Ha, Ha = noT Hz := ⟨_, rfl⟩
    have subA : Same Ha Hz := by rw [hHa]; exact fun b o e => (noT_of e).1
    have ntA : ∀ b o, Ha b = some o → ∀ ps, o ≠ .tbl ps := by rw [hHa]; exact fun b o e => (noT_of e).2
    have hSA : SqL K Ha a (ns.map V.int) := by
      rw [hHa]
      rcases hSz with (h | ⟨o, h⟩) | h
      · exact .inl (.inl (noT_get h fun _ z => nomatch z))
      · exact .inl (.inr ⟨o, noT_get h fun _ z => nomatch z⟩)
      · exact .inr h
    have adA : Ha d = none := subA.free hda
    have xa2 : Same Ha H2 := fun b o e => b2 _ _ (ne_of_none e adA) (s1 _ _ (subA _ _ e))
    clear hHa
    -- device = Device(book)
    refine ⟨_, rfl, pl, s, t, r, cc, B, rfl, hP2, gB, fun bk H4 s4 hbk hB4 => ?_⟩
    have hd4 := hd2.same s4
    have hP4 := hP2.same s4
    have hT4 := hT2.ext s4
    obtain ⟨H0, hH0⟩ : ∃ H0, H0 = noT (HN.del H4 d) := ⟨_, rfl⟩
    have hB0 : BookAt Cb H0 bk (toldB B) := by rw [hH0]; exact (hB4.del hd4).noT
    have hP0 : PlanAt H0 pl s t r cc B := by rw [hH0]; exact (hP4.del hd4).noT
    have n0 : ∀ {x : Addr}, H4 x = none → H0 x = none := fun e => by rw [hH0]; exact noT_none (HN.del_none e)
    have sub0 : Same H0 H4 := by rw [hH0]; exact fun b o e => HN.del_sub _ _ _ _ (noT_of e).1
    have nt0 : ∀ b o, H0 b = some o → ∀ ps, o ≠ .tbl ps := by rw [hH0]; exact fun b o e => (noT_of e).2
    have fd0 : H0 d = none := by rw [hH0]; exact noT_none (HN.del_same _ _)
    clear hH0
    refine fun v dx hv4 hdx4 ndx => ?_
    have m1 := same_new (o := .own v) hdx4
    have hv4' : (upd H4 dx (.own v)) v = none := by rw [upd_ne (fun z => ndx z.symm)]; exact hv4
    have m2 := m1.trans (same_new (o := .ins C dx []) hv4')
    have hvi : (upd (upd H4 dx (.own v)) v (.ins C dx [])) v = some (.ins C dx []) := upd_same
    generalize hHv : upd (upd H4 dx (.own v)) v (.ins C dx []) = Hv at m2 hvi ⊢
    refine ⟨v, dx, bk, rfl, hvi, fun c l tb H5 hc5 hl5 ht5 keep dev5 => ⟨rfl, ?_⟩⟩
    have s45 : Same H4 H5 := fun b o e => keep _ _ (fun z => by rw [z, hv4] at e; cases e) (m2 _ _ e)
    have xa4 : Same Ha H4 := xa2.trans s4
    have okB : OkB (toldB B) := ⟨gB.2.2.1, fun p hp => by
      have m := List.mem_filter.mp (show p ∈ told B.rows from hp)
      obtain ⟨h1, h2⟩ := sortR_mem m.1
      obtain ⟨e, he, hm⟩ := sortK_has gB.2.2.2.1.1 h1
      rw [he] at h2
      have h2' : p.2 = e := h2
      rw [h2']
      exact (gB.2.2.2.1.2.2 _ hm).2⟩
    have fx : Fx Cb Ha H0 d v c l bk pl s t r cc B := ⟨hB0, hP0, gB, okB, fd0, nt0, ntA, adA, xa4.free hv4, xa4.free (m2.free hc5), xa4.free (m2.free hl5)⟩
    have M5 : Md C Ha H0 Pt d v c l bk B H5 tb ⟨[], 0, [], []⟩ :=
      ⟨hd4.same s45, dev5, ⟨sub0.trans s45, n0 hv4, n0 (m2.free hc5), n0 (m2.free hl5), n0 (m2.free ht5)⟩, ⟨fun p hp => (nomatch hp), .nil, Nat.le_refl _, Nat.zero_le _⟩, hT4.ext s45, xa4.trans s45, xa4.free (m2.free ht5)⟩
    clear hHv keep
    -- the first letters
    refine ⟨_, rfl, _, rfl, d, pl, s, t, r, cc, B, 4, 6, rfl, M5.dr, hP4.same s45, gB.2.1, by decide, by decide, by decide, fun q row H6 hd6 b6 hq hrow hrs hlr => ?_⟩
    have M6 := M5.draw fx b6 hd6
    obtain ⟨xs, hxs, rxs⟩ := hrow
    have lxs : xs.length = row.length := Paired.length rxs
    have wS : ∀ z ∈ B.sorts, isWord z = true := gB.2.1.2.2.2
    obtain ⟨_, hl5', _⟩ := dev5.pa
    obtain ⟨_, ht5', _⟩ := dev5.ba
    have nql : q ≠ l := fun z => by rw [z, hl5'] at hq; cases hq
    refine ⟨q, rfl, ⟨_, SqL.of hxs⟩, for_it walk_list (fun i σ H' => ∃ k5 k6 tb D, σ = [some (.ref a), some (.int (0 + i0)), some (.ref d), some (.ref pl), some (.ref v), k5, k6, k7, k8, k9, k10, k11] ∧ Md C Ha H0 Pt d v c l bk B H' tb D ∧ H' q = some (.lst xs) ∧ Paired (Lt1Is H') xs row ∧ Hist B D ∧ Words D ∧ D.past.length = i ∧ q ≠ tb)
      ⟨k5, k6, tb, ⟨[], 0, [], []⟩, rfl, M6, hxs, rxs, .inl rfl, fun p hp => (nomatch hp), rfl, fun z => by rw [z, ht5'] at hq; cases hq⟩ (fun i σ H' _ ⟨_, _, _, _, _, _, hx, _⟩ => SqL.of hx) (fun i x σ H7 H7' hi ⟨k5, k6, tb, D, hσ, M7, hx7, rx7, hist, wds, lp, nqt⟩ y => ?_) (fun σ H7 ⟨k5, k6, tb, D, hσ, M7, hx7, rx7, hist, wds, lp, nqt⟩ => ?_)⟩
    · obtain ⟨hH, hx⟩ := y
      have hH' := hH.symm
      subst hH'
      subst hσ
      obtain ⟨⟨so, n⟩, hrow_i, tt, rfl, htt⟩ := paired_get rx7 hx
      have hso : so ∈ B.sorts := hrs _ (List.mem_of_getElem? hrow_i)
      obtain ⟨dx7, hv7⟩ := M7.dev.ob
      refine ⟨tt, _, rfl, SqT.of htt, rfl, _, _, rfl, _, _, rfl, rfl, ?_⟩
      have lp4 : D.past.length < 4 := by omega
      refine ⟨_, rfl, v, dx7, _, rfl, hv7, dvF_no _ _ _ _ _ (by decide +kernel), _, rfl, _, rfl, v, c, l, tb, bk, D, toldB B, H0, ("a", so, n), rfl, M7.dev, M7.un, hB0, okB, M7.gd, by omega, isWord_a, hso, fun rr tb' H8 nt8 dev8 un8 fr8 hr8 => ?_⟩
      have M8 := M7.fr3 fx fr8 dev8 un8 (stepD_good okB M7.gd (by omega) isWord_a) nt8
      obtain ⟨dxx, hvv⟩ := M7.dev.ob
      obtain ⟨kvv, hcc, _⟩ := M7.dev.ce
      have tu8 : ∀ b xs', H7 b = some (.tup xs') → H8 b = some (.tup xs') := fun b xs' e => by
        obtain ⟨xl, hl7, _⟩ := id M7.dev.pa
        exact fr8 _ _ (ne_of e hvv (fun z => nomatch z)) (ne_of e hcc (fun z => nomatch z)) (ne_of e hl7 (fun z => nomatch z)) e
      refine ⟨_, _, tb', takeD (toldB B) D ("a", so, n), rfl, M8, fr8 _ _ (ne_of hx7 hvv (fun z => nomatch z)) (ne_of hx7 hcc (fun z => nomatch z)) nql hx7, Paired.mapP rx7 fun x y ⟨t', q1, q2⟩ => ⟨t', q1, tu8 _ _ q2⟩, .inr ⟨D, ("a", so, n), rfl, M7.gd, by omega, isWord_a, hso⟩, fun p hp => ?_, ?_, fun z => by rw [z, nt8] at hx7; cases hx7⟩
      · rcases List.mem_append.mp (show p ∈ D.past ++ [_] from hp) with h | h
        · exact wds p h
        · rw [List.mem_singleton] at h
          subst h
          exact ⟨isWord_a, wS _ hso⟩
      · show (D.past ++ [_]).length = i + 1
        simp [lp]
    subst hσ
    rw [lxs] at lp
    have lp4 : D.past.length ≤ 4 := by omega
    clear hxs rxs hx7 rx7
    -- taken
    obtain ⟨dx7, hv7⟩ := M7.dev.ob
    refine ⟨_, rfl, v, dx7, _, rfl, hv7, dvF_no _ _ _ _ _ (by decide +kernel), v, c, l, tb, bk, D, rfl, M7.dev, by omega, fun tk H8 s8 htk hb8 => ?_⟩
    have M8 := M7.same s8
    obtain ⟨L, hL⟩ : ∃ L, L = D.past.map (·.letter) := ⟨_, rfl⟩
    rw [← hL] at hb8
    have lL : L.length ≤ 4 := by rw [hL, List.length_map]; exact lp4
    have wL : ∀ a ∈ L, isWord a.1 = true ∧ isWord a.2.1 = true := by
      rw [hL]
      intro a ha
      obtain ⟨p, hp, rfl⟩ := List.mem_map.mp ha
      exact wds p hp
    have ntk : tk ≠ v ∧ tk ≠ c ∧ tk ≠ l ∧ tk ≠ tb := by
      obtain ⟨kvv, hcc, _⟩ := M7.dev.ce
      obtain ⟨xl, hl7, _⟩ := id M7.dev.pa
      obtain ⟨yl, ht7, _⟩ := id M7.dev.ba
      exact ⟨fun z => (by rw [z, hv7] at htk; cases htk), fun z => (by rw [z, hcc] at htk; cases htk), fun z => (by rw [z, hl7] at htk; cases htk), fun z => (by rw [z, ht7] at htk; cases htk)⟩
    dsimp only [gName]
    refine if_join ⟨fun H' => ∃ D', Md C Ha H0 Pt d v c l bk B H' tb D' ∧ BackAt H' tk L ∧ Away B L D' ∧ D'.past.length ≤ 4, fun H9 hI => ?_, fun go => ?_⟩
    case refine_2 =>
      refine ⟨_, rfl, Nat.zero_le _, fun q0 hq0 => ?_⟩
      have s9 := same_new (o := .lst []) hq0
      refine ⟨.list (L.map letD), .list [], dp_backAt (hb8.same s9), .lst (SqL.of upd_same) .nil, letD_shaped wL, by decide +kernel, _, rfl, ?_⟩
      rw [letD_eqv]
      rcases hist with rfl | ⟨Dp, ap, rfl, gp, lpp, wa, ha⟩
      · have : L = [] := hL
        subst this
        refine iteF ?_
        exact go _ ⟨_, M8.same s9, hb8.same s9, .inl ⟨rfl, rfl⟩, lp4⟩
      · have hL' : L = Dp.past.map (·.letter) ++ [ap] := by
          rw [hL]
          show (Dp.past ++ [_]).map _ = _
          rw [List.map_append]; rfl
        have ne : ¬ L = [] := by rw [hL']; simp
        rw [decide_eq_false ne]
        refine iteT ?_
        have M9 := M8.same s9
        obtain ⟨dx9, hv9⟩ := M9.dev.ob
        have lpp4 : Dp.past.length ≤ 3 := by
          have : (Dp.past ++ [_]).length ≤ 4 := lp4
          rw [List.length_append] at this
          simpa using this
        refine ⟨_, rfl, v, dx9, _, rfl, hv9, dvF_no _ _ _ _ _ (by decide +kernel), v, c, l, tb, bk, takeD (toldB B) Dp ap, Dp.past, ⟨ap, cAt Dp.cells ap.1, Dp.badge⟩, rfl, M9.dev, rfl, undo_in, ?_, by omega, Nat.zero_le _, fun H10 dev10 fr10 => ?_⟩
        · have := M9.gd.2.2.1
          omega
        · rw [undo_take gp.2.1] at dev10
          have M10 := M9.fr4 fx fr10 dev10 gp
          obtain ⟨xk, hk9, pk⟩ := hb8.same s9
          refine go _ ⟨_, M10, ⟨xk, fr10 _ _ ntk.1 ntk.2.1 ntk.2.2.1 ntk.2.2.2 hk9, ?_⟩, .inr ⟨ap, rfl, hL', wa, ha⟩, by show Dp.past.length ≤ 4; omega⟩
          obtain ⟨kvv, hcc, _⟩ := M9.dev.ce
          obtain ⟨xl, hl9, _⟩ := id M9.dev.pa
          obtain ⟨yl, ht9, _⟩ := id M9.dev.ba
          exact Paired.mapP pk fun x y ⟨t', q1, q2⟩ => ⟨t', q1, fr10 _ _ (ne_of q2 hv9 (fun z => nomatch z)) (ne_of q2 hcc (fun z => nomatch z)) (ne_of q2 hl9 (fun z => nomatch z)) (ne_of q2 ht9 (fun z => nomatch z)) q2⟩
    obtain ⟨D7, M9, hb9, away, lp7⟩ := hI
    clear M8 hb8 hist wds lp M7
    -- before
    have lc7 : D7.cells.length < 64 := by
      have := M9.gd.2.2.1
      omega
    refine ⟨v, c, l, tb, bk, D7, toldB B, rfl, M9.dev, hB0.same M9.un.same, by omega, lc7, fun qb ql qm ys H10 s10 hqb hql hqm eqb eql eqm hys => ?_⟩
    have M10 := M9.same s10
    have hb10 := hb9.same s10
    have nqb : qb ≠ d := dr_ne M9.dr hqb
    have nqm : qm ≠ d := dr_ne M9.dr hqm
    clear M9 hb9
    -- eight times
    refine ⟨8, rfl, by decide, by decide, for_range (lo := 0) (n := 8) (fun i σ H' => ∃ k5 k6 k9 k10 k11, σ = [some (.ref a), some (.int (0 + i0)), some (.ref d), some (.ref pl), some (.ref v), k5, k6, some (.ref tk), some (.ref qb), k9, k10, k11] ∧ Dr H' d ∧ Tabs (Tb Pt) H' ∧ ButN d H10 H')
      ⟨k5, k6, k9, k10, k11, rfl, M10.dr, M10.tabs, ButN.refl⟩ (fun i1 σ H11 hi1 ⟨k5, k6, k9, k10, k11, hσ, hd11, t11, bn11⟩ => ?_) (fun σ H11 ⟨k5, k6, k9, k10, k11, hσ, hd11, t11, bn11⟩ => ?_)⟩
    · subst hσ
      have hPx : ∀ {Hx : Hp}, Dr Hx d → Tabs (Tb Pt) Hx → ButN d H10 Hx → PlanAt Hx pl s t r cc B := fun a1 a2 a3 => hP0.same (M10.butN fx a3 a1 a2).un.same
      -- key
      refine ⟨_, rfl, by show 1 ≤ sizeLine; decide, fun t1 ht1 => ⟨by show 1 ≤ sizeLine; decide, fun l1 hl1 => ⟨by show 11 ≤ sizeLine; decide, fun kl hkl => ?_⟩⟩⟩
      have e1 := same_new (o := .tup [.str "a"]) ht1
      have e2 := same_new (o := .lst [.str "a"]) hl1
      have e3 := same_new (o := .lst [.str "a", .str "a", .str "longword", .str "", .str "longworde", .str "A", .str "a b", .non, .int 5, .ref t1, .ref l1]) hkl
      have e13 := (e1.trans e2).trans e3
      have g1 := (e2.trans e3) _ _ (upd_same (H := H11) (a := t1) (o := .tup [.str "a"]))
      have g2 := e3 _ _ (upd_same (a := l1) (o := .lst [.str "a"]))
      have hdk := hd11.same e13
      refine ⟨d, kl, _, rfl, hdk, SqL.of upd_same, dr_ne hd11 ((e1.trans e2).free hkl), (by show 0 < 11; decide), (by show 11 ≤ 1000; decide), fun r1 x H12 hx12 hd12 b12 => ?_⟩
      have t12 := Tabs.but (t11.ext e13) b12 hdk
      have bn12 := (bn11.same e13).but b12
      obtain ⟨dx, xat, kok⟩ : ∃ dx, XAt H12 x dx ∧ KeyOk x dx := by
        have str : ∀ z ∈ (["a", "a", "longword", "", "longworde", "A", "a b"] : List Str), ∃ dx, XAt H12 (.str z) dx ∧ KeyOk (.str z) dx := fun z hz => ⟨.str z, .flat (.str z (keys11 z hz).2.2), keyOk_str (keys11 z hz).1 (keys11 z hz).2.1⟩
        match r1, hx12 with
        | 0, h => cases h; exact str _ (by simp)
        | 1, h => cases h; exact str _ (by simp)
        | 2, h => cases h; exact str _ (by simp)
        | 3, h => cases h; exact str _ (by simp)
        | 4, h => cases h; exact str _ (by simp)
        | 5, h => cases h; exact str _ (by simp)
        | 6, h => cases h; exact str _ (by simp)
        | 7, h => cases h; exact ⟨_, .flat .non, keyOk_no rfl⟩
        | 8, h => cases h; exact ⟨_, .flat (.int 5), keyOk_no rfl⟩
        | 9, h => cases h; exact ⟨_, .tup (.str "a" (by decide +kernel)) (b12 _ _ (dr_tup hdk g1) g1), keyOk_no rfl⟩
        | 10, h => cases h; exact ⟨_, .lst (.str "a" (by decide +kernel)) (b12 _ _ (dr_len hdk g2 (by decide)) g2), keyOk_no rfl⟩
        | n + 11, h => simp at h
      clear g1 g2 hx12 hdk e1 e2 e3 e13
      -- sort
      have hP12 := hPx hd12 t12 bn12
      obtain ⟨z0, hz0⟩ : ∃ z, B.sorts[0]? = some z := ⟨_, List.getElem?_eq_getElem gB.2.1.1⟩
      have w0 : isWord z0 = true := wS _ (List.mem_of_getElem? hz0)
      have ix0 : atI (B.sorts.map V.str) 0 = some (.str z0) := atI_nat (j := 0) (by rw [List.getElem?_map, hz0]; rfl)
      refine ⟨_, rfl, _, rfl, pl, _, 1, .ref t, rfl, rfl, SqT.of hP12.pl, rfl, ?_⟩
      refine ⟨_, rfl, pl, _, 1, .ref t, rfl, rfl, SqT.of hP12.pl, rfl, t, _, 0, .str z0, rfl, rfl, SqL.of hP12.t, ix0, by show 1 ≤ sizeLine; decide, fun t2 ht2 => ?_⟩
      have e4 := same_new (o := .tup [.str z0]) ht2
      have hP4' := hP12.same e4
      refine ⟨_, rfl, pl, _, 1, .ref t, rfl, rfl, SqT.of hP4'.pl, rfl, t, _, 0, .str z0, rfl, rfl, SqL.of hP4'.t, ix0, by show 1 ≤ sizeLine; decide, fun l2 hl2 => ⟨by show 7 ≤ sizeLine; decide, fun m2 hm2 => ?_⟩⟩
      have e5 := same_new (o := .lst [.str z0]) hl2
      have e6 := same_new (o := .lst [.str "zz", .str "", .non, .int 5, .ref t2, .ref l2, .bl true]) hm2
      have hP6 := (hP4'.same e5).same e6
      have l7 : (B.sorts.map V.str).length + 7 ≤ 100 := by rw [List.length_map]; have := gB.2.1.2.1; omega
      refine ⟨t, m2, _, _, rfl, rfl, hP6.t, upd_same, Nat.le_trans l7 (by decide), fun p2 hp2 => ?_⟩
      have e7 := same_new (o := .lst (B.sorts.map V.str ++ [.str "zz", .str "", .non, .int 5, .ref t2, .ref l2, .bl true])) hp2
      have e47 := ((e4.trans e5).trans e6).trans e7
      have g3 := ((e5.trans e6).trans e7) _ _ (upd_same (H := H12) (a := t2) (o := .tup [.str z0]))
      have g4 := (e6.trans e7) _ _ (upd_same (a := l2) (o := .lst [.str z0]))
      have hdm := hd12.same e47
      refine ⟨d, p2, _, rfl, hdm, SqL.of upd_same, dr_ne hd12 (((e4.trans e5).trans e6).free hp2), ?_, ?_, fun r2 y H13 hy13 hd13 b13 => ?_⟩
      · rw [List.length_append]; exact Nat.lt_of_lt_of_le (by show 0 < 7; decide) (Nat.le_add_left _ _)
      · rw [List.length_append]; exact Nat.le_trans l7 (by decide)
      have t13 := Tabs.but (t12.ext e47) b13 hdm
      have bn13 := (bn12.same e47).but b13
      have xat13 := xat.keep hd12 ((ButN.refl.same e47).but b13)
      obtain ⟨dy, yat⟩ : ∃ dy, XAt H13 y dy := by
        by_cases hlt : r2 < (B.sorts.map V.str).length
        · rw [List.getElem?_append_left hlt] at hy13
          obtain ⟨z, hz, rfl⟩ := get_str hy13
          exact ⟨_, .flat (.str z (word_ok (wS z (List.mem_of_getElem? hz))))⟩
        · rw [List.getElem?_append_right (by omega)] at hy13
          generalize r2 - (B.sorts.map V.str).length = j at hy13
          match j, hy13 with
          | 0, h => cases h; exact ⟨_, .flat (.str "zz" (by decide +kernel))⟩
          | 1, h => cases h; exact ⟨_, .flat (.str "" (by decide +kernel))⟩
          | 2, h => cases h; exact ⟨_, .flat .non⟩
          | 3, h => cases h; exact ⟨_, .flat (.int 5)⟩
          | 4, h => cases h; exact ⟨_, .tup (.str z0 (word_ok w0)) (b13 _ _ (dr_tup hdm g3) g3)⟩
          | 5, h => cases h; exact ⟨_, .lst (.str z0 (word_ok w0)) (b13 _ _ (dr_len hdm g4 (by simp)) g4)⟩
          | 6, h => cases h; exact ⟨_, .flat (.bl true)⟩
          | n + 7, h => simp at h
      clear g3 g4 hy13 hdm e4 e5 e6 e7 e47 hP6 hP4' hP12
      -- number
      refine ⟨_, rfl, by show 1 ≤ sizeLine; decide, fun t3 ht3 => ⟨by show 1 ≤ sizeLine; decide, fun l3 hl3 => ⟨by show 8 ≤ sizeLine; decide, fun m3 hm3 => ?_⟩⟩⟩
      have e1 := same_new (o := .tup [.int 1]) ht3
      have e2 := same_new (o := .lst [.int 1]) hl3
      have e3 := same_new (o := .lst [.int 1, .int 2, .non, .str "1", .bl true, .bl false, .ref t3, .ref l3]) hm3
      have e13 := (e1.trans e2).trans e3
      have g1 := (e2.trans e3) _ _ (upd_same (H := H13) (a := t3) (o := .tup [.int 1]))
      have g2 := e3 _ _ (upd_same (a := l3) (o := .lst [.int 1]))
      have hdk := hd13.same e13
      refine ⟨d, m3, _, rfl, hdk, SqL.of upd_same, dr_ne hd13 ((e1.trans e2).free hm3), (by show 0 < 8; decide), (by show 8 ≤ 1000; decide), fun r3 z H14 hz14 hd14 b14 => ?_⟩
      have t14 := Tabs.but (t13.ext e13) b14 hdk
      have bn14 := (bn13.same e13).but b14
      have bb14 : ButN d H13 H14 := (ButN.refl.same e13).but b14
      have xat14 := xat13.keep hd13 bb14
      have yat14 := yat.keep hd13 bb14
      obtain ⟨dz, zat⟩ : ∃ dz, XAt H14 z dz := by
        match r3, hz14 with
        | 0, h => cases h; exact ⟨_, .flat (.int 1)⟩
        | 1, h => cases h; exact ⟨_, .flat (.int 2)⟩
        | 2, h => cases h; exact ⟨_, .flat .non⟩
        | 3, h => cases h; exact ⟨_, .flat (.str "1" (by decide +kernel))⟩
        | 4, h => cases h; exact ⟨_, .flat (.bl true)⟩
        | 5, h => cases h; exact ⟨_, .flat (.bl false)⟩
        | 6, h => cases h; exact ⟨_, .tup (.int 1) (b14 _ _ (dr_tup hdk g1) g1)⟩
        | 7, h => cases h; exact ⟨_, .lst (.int 1) (b14 _ _ (dr_len hdk g2 (by decide)) g2)⟩
        | n + 8, h => simp at h
      clear g1 g2 hz14 hdk e1 e2 e3 e13 xat13 yat xat
      -- due
      refine ⟨_, rfl, _, rfl, _, rfl, _, rfl, pl, s, t, r, cc, B, x, y, z, dx, dy, dz, rfl, hPx hd14 t14 bn14, xat14.odd.dp, kok.tx, yat14.odd.dp, zat.odd.dp, fun u H15 s15 du => ?_⟩
      have hd15 := hd14.same s15
      have t15 := t14.ext s15
      have bn15 := bn14.same s15
      have bb15 : ButN d H14 H15 := ButN.refl.same s15
      have xat15 := xat14.keep hd14 bb15
      have yat15 := yat14.keep hd14 bb15
      have zat15 := zat.keep hd14 bb15
      clear xat14 yat14 zat t14 bn14 t13 bn13 t12 bn12 bb14 bb15
      rcases du with rfl | ⟨p, tag, u', rfl, hp15, hcase⟩
      · exact ⟨_, rfl, _, rfl, iteF ⟨_, _, _, _, _, rfl, hd15, t15, bn15⟩⟩
      obtain ⟨Ce, fld, dq, tg, bad, qat15, hkey⟩ : ∃ Ce fld dq, Tag3 CK CS CN Ce fld tag ∧ Bad B.sorts CK CS CN x dx y dy z dz Ce fld u' ∧ XAt H15 u' dq ∧ (tag = "key" → u' = x ∧ dq = dx ∧ dWord dx = false) := by
        rcases hcase with ⟨rfl, rfl, h1⟩ | ⟨rfl, rfl, h1, h2⟩ | ⟨rfl, rfl, h1, h2, h3⟩
        · have hw : dWord dx = false := by rw [← kok.lw]; exact h1
          exact ⟨CK, "key", dx, .inl ⟨rfl, rfl, rfl⟩, .key hw, xat15, fun _ => ⟨rfl, rfl, hw⟩⟩
        · have hw : dWord dx = true := by rw [← kok.lw]; exact h1
          obtain ⟨kk, rfl, rfl⟩ := kok.st hw
          exact ⟨CS, "word", dy, .inr (.inl ⟨rfl, rfl, rfl⟩), .sort kk rfl hw (by rw [any_eqv]; exact h2), yat15, fun e => absurd e (by decide +kernel)⟩
        · have hw : dWord dx = true := by rw [← kok.lw]; exact h1
          obtain ⟨kk, rfl, rfl⟩ := kok.st hw
          obtain ⟨ss, rfl, rfl⟩ : ∃ ss, y = .str ss ∧ dy = .str ss := by
            cases yat15 with
            | flat h => cases h with
              | str zz _ => exact ⟨zz, rfl, rfl⟩
              | non => cases h2
              | bl _ => cases h2
              | int _ => cases h2
            | tup _ _ => cases h2
            | lst _ _ => cases h2
          exact ⟨CN, "number", dz, .inr (.inr ⟨rfl, rfl, rfl⟩), .num kk ss rfl hw rfl (by rw [any_eqv]; exact h2) h3, zat15, fun e => absurd e (by decide +kernel)⟩
      refine ⟨_, rfl, _, rfl, iteT ?_⟩
      have M15 := M10.butN fx bn15 hd15 t15
      -- tried(take)
      refine ⟨t15, fun H16 x16 t16 => ?_⟩
      have hd16 : Dr H16 d := Dr.ext x16 hd15
      have bn16 := bn15.ext x16
      have M16 := M10.butN fx bn16 hd16 t16
      have bb16 : ButN d H15 H16 := ButN.refl.ext x16
      obtain ⟨dx16, hv16⟩ := M16.dev.ob
      have qo := (qat15.odd (K := K))
      refine ⟨_, rfl, v, dx16, _, rfl, hv16, dvF_no _ _ _ _ _ (by decide +kernel), _, rfl, _, rfl, _, rfl, v, c, l, tb, bk, D7, toldB B, x, y, z, dx, dy, dz, Ce, fld, u', rfl, M16.dev, hB0.same M16.un.same, (xat15.keep hd15 bb16).odd.dp, kok.tx, (yat15.keep hd15 bb16).odd.dp, (yat15.odd (K := K)).sh, (zat15.keep hd15 bb16).odd.dp, wS, bad, fun dd H17 s17 hdd => ⟨Ce, fld, tag, dd, u', tg, rfl, rfl, hdd, fun q1 H18 s18 hq1 => ?_⟩⟩
      have bb18 : ButN d H15 H18 := (bb16.same s17).same s18
      have hd18 := (hd16.same s17).same s18
      have t18 := (t16.ext s17).ext s18
      have bn18 := (bn16.same s17).same s18
      have hp18 : H18 p = some (.tup [.str tag, u']) := bb18 _ _ (dr_tup hd15 hp15) (fun _ z => nomatch z) hp15
      have qat18 := qat15.keep hd15 bb18
      refine ⟨_, rfl, .ref q1, .ref p, .tuple [.str tag, dq], .tuple [.str tag, dq], rfl, tag_odd hq1 qat18, tag_odd hp18 qat18, tag_dep qo.de, tag_wd qo.wd, fun H19 s19 => ⟨_, rfl, ?_⟩⟩
      rw [sm_self (tag_plain qo.pl)]
      refine iteF ?_
      have hd19 := hd18.same s19
      have t19 := t18.ext s19
      have bn19 := bn18.same s19
      have bb19 : ButN d H15 H19 := bb18.same s19
      have hp19 := s19 _ _ hp18
      refine ⟨_, rfl, p, _, 0, .str tag, rfl, rfl, SqT.of hp19, rfl, rfl, _, rfl, ?_⟩
      refine ite2 (fun hk => ?_) (fun hk => ⟨_, _, _, _, _, rfl, hd19, t19, bn19⟩)
      have hk' : tag = "key" := by
        have := of_decide_eq_true hk
        injection this
      obtain ⟨rfl, rfl, hw⟩ := hkey hk'
      subst hk'
      -- tried(state)
      refine ⟨t19, fun H20 x20 t20 => ?_⟩
      have hd20 : Dr H20 d := Dr.ext x20 hd19
      have bn20 := bn19.ext x20
      have M20 := M10.butN fx bn20 hd20 t20
      have bb20 : ButN d H15 H20 := bb19.ext x20
      obtain ⟨dx20, hv20⟩ := M20.dev.ob
      refine ⟨_, rfl, v, dx20, _, rfl, hv20, dvF_no _ _ _ _ _ (by decide +kernel), _, rfl, v, u', dq, rfl, (xat15.keep hd15 bb20).odd.dp, kok.tx, hw, fun dd2 H21 s21 hdd2 => ⟨CK, "key", "key", dd2, u', .inl ⟨rfl, rfl, rfl⟩, rfl, rfl, hdd2, fun q2 H22 s22 hq2 => ?_⟩⟩
      have bb22 : ButN d H15 H22 := (bb20.same s21).same s22
      have hd22 := (hd20.same s21).same s22
      have t22 := (t20.ext s21).ext s22
      have bn22 := (bn20.same s21).same s22
      have hp22 : H22 p = some (.tup [.str "key", u']) := bb22 _ _ (dr_tup hd15 hp15) (fun _ z => nomatch z) hp15
      have qat22 := qat15.keep hd15 bb22
      refine ⟨_, rfl, .ref q2, .ref p, .tuple [.str "key", dq], .tuple [.str "key", dq], rfl, tag_odd hq2 qat22, tag_odd hp22 qat22, tag_dep qo.de, tag_wd qo.wd, fun H23 s23 => ⟨_, rfl, ?_⟩⟩
      rw [sm_self (tag_plain qo.pl)]
      refine iteF ?_
      -- tried(held)
      refine ⟨t22.ext s23, fun H24 x24 t24 => ?_⟩
      have hd24 : Dr H24 d := Dr.ext x24 (hd22.same s23)
      have bn24 := (bn22.same s23).ext x24
      have M24 := M10.butN fx bn24 hd24 t24
      have bb24 : ButN d H15 H24 := (bb22.same s23).ext x24
      obtain ⟨dx24, hv24⟩ := M24.dev.ob
      refine ⟨_, rfl, v, dx24, _, rfl, hv24, dvF_no _ _ _ _ _ (by decide +kernel), _, rfl, v, u', dq, rfl, (xat15.keep hd15 bb24).odd.dp, kok.tx, hw, fun dd3 H25 s25 hdd3 => ⟨CK, "key", "key", dd3, u', .inl ⟨rfl, rfl, rfl⟩, rfl, rfl, hdd3, fun q3 H26 s26 hq3 => ?_⟩⟩
      have bb26 : ButN d H15 H26 := (bb24.same s25).same s26
      have hd26 := (hd24.same s25).same s26
      have t26 := (t24.ext s25).ext s26
      have bn26 := (bn24.same s25).same s26
      have hp26 : H26 p = some (.tup [.str "key", u']) := bb26 _ _ (dr_tup hd15 hp15) (fun _ z => nomatch z) hp15
      have qat26 := qat15.keep hd15 bb26
      refine ⟨_, rfl, .ref q3, .ref p, .tuple [.str "key", dq], .tuple [.str "key", dq], rfl, tag_odd hq3 qat26, tag_odd hp26 qat26, tag_dep qo.de, tag_wd qo.wd, fun H27 s27 => ⟨_, rfl, ?_⟩⟩
      rw [sm_self (tag_plain qo.pl)]
      exact iteF ⟨_, _, _, _, _, rfl, hd26.same s27, t26.ext s27, bn26.same s27⟩
    subst hσ
    -- all as before
    have M11 := M10.butN fx bn11 hd11 t11
    have hb11 := hb10.keepN M10.dr bn11
    have eqb11 := bn11 _ _ nqb (by intro ps z; cases z) eqb
    have eql11 := eql.keepN M10.dr bn11
    have eqm11 := bn11 _ _ nqm (by intro ps z; cases z) eqm
    refine ⟨v, c, l, tb, bk, D7, toldB B, rfl, M11.dev, hB0.same M11.un.same, by omega, lc7, fun qb2 ql2 qm2 ys2 H12 s12 hqb2 hql2 hqm2 eqb2 eql2 eqm2 hys2 => ?_⟩
    have ey : ys2 = ys := IsSort.uniq hys2 hys
    subst ey
    have dpo : ∀ {Hx : Hp} {q0 ql0 qm0 : Addr}, Hx q0 = some (.lst [.int D7.badge, .ref ql0, .str (cellOf (toldB B) D7 "a").1, HN.hv (cellOf (toldB B) D7 "a").2, .ref qm0]) → BackAt Hx ql0 (D7.past.map (·.letter)) → Hx qm0 = some (.lst (ys2.map V.str)) → Dp K Hx (.ref q0) (obsE (toldB B) D7 ys2) :=
      fun a1 a2 a3 => .lst (SqL.of a1) (.cons (.int _) (.cons (dp_backAt a2) (.cons (.str _) (.cons (dp_hv _) (.cons (.lst (SqL.of a3) (dp_strs _)) .nil)))))
    have lys : ys2.length ≤ 1000 := by
      have := hys.1.length_eq
      rw [List.length_map] at this
      omega
    refine ⟨_, rfl, .ref qb2, .ref qb, _, _, rfl, dpo eqb2 eql2 eqm2, dpo (s12 _ _ eqb11) (eql11.same s12) (s12 _ _ eqm11), obsE_dep .., obsE_wd _ _ _ (by omega) lys, fun H13 s13 => ⟨_, rfl, ?_⟩⟩
    rw [sm_self (obsE_plain ..)]
    refine iteF ?_
    have M13 := (M11.same s12).same s13
    have hb13 := (hb11.same s12).same s13
    clear M11 hb11 eqb11 eql11 eqm11 M10 hb10 eqb eql eqm eqb2 eql2 eqm2
    refine if_joinT ⟨fun H' => ∃ D', Md C Ha H0 Pt d v c l bk B H' tb D' ∧ BackAt H' tk L ∧ D'.past.map (·.letter) = L, fun H14 hI => ?_, fun go => ?_⟩
    case refine_2 =>
      refine ⟨_, rfl, Nat.zero_le _, fun q0 hq0 => ?_⟩
      have s14 := same_new (o := .lst []) hq0
      refine ⟨.list (L.map letD), .list [], dp_backAt (hb13.same s14), .lst (SqL.of upd_same) .nil, letD_shaped wL, by decide +kernel, _, rfl, ?_⟩
      rw [letD_eqv]
      rcases away with ⟨h1, h2⟩ | ⟨ap, h1, h2, wa, ha⟩
      · rw [decide_eq_true h1]
        refine iteF ?_
        exact go _ ⟨_, M13.same s14, hb13.same s14, by rw [h2, h1]; rfl⟩
      · have ne : ¬ L = [] := by rw [h2]; simp
        rw [decide_eq_false ne]
        refine iteT ?_
        have M14 := M13.same s14
        obtain ⟨dx14, hv14⟩ := M14.dev.ob
        refine ⟨_, rfl, v, dx14, _, rfl, hv14, dvF_no _ _ _ _ _ (by decide +kernel), v, c, l, tb, bk, D7, toldB B, H0, [], ap, rfl, M14.dev, M14.un, hB0, okB, M14.gd, by omega, h1, wa, ha, fun H15 dev15 un15 fr15 => ?_⟩
        have M15 := M14.fr4 fx fr15 dev15 (stepD_good okB M14.gd (by omega) wa)
        obtain ⟨xk, hk14, pk⟩ := hb13.same s14
        refine go _ ⟨_, M15, ⟨xk, fr15 _ _ ntk.1 ntk.2.1 ntk.2.2.1 ntk.2.2.2 hk14, ?_⟩, ?_⟩
        · obtain ⟨kvv, hcc, _⟩ := M14.dev.ce
          obtain ⟨xl, hl14, _⟩ := id M14.dev.pa
          obtain ⟨yl, ht14, _⟩ := id M14.dev.ba
          exact Paired.mapP pk fun x y ⟨t', q1, q2⟩ => ⟨t', q1, fr15 _ _ (ne_of q2 hv14 (fun z => nomatch z)) (ne_of q2 hcc (fun z => nomatch z)) (ne_of q2 hl14 (fun z => nomatch z)) (ne_of q2 ht14 (fun z => nomatch z)) q2⟩
        · show (D7.past ++ [_]).map _ = L
          rw [h2, List.map_append]; rfl
    obtain ⟨D9, M14, hb14, el⟩ := hI
    obtain ⟨dx14, hv14⟩ := M14.dev.ob
    have l9 : D9.past.length ≤ 4 := by
      have := congrArg List.length el
      rw [List.length_map] at this
      omega
    refine ⟨_, rfl, v, dx14, _, rfl, hv14, dvF_no _ _ _ _ _ (by decide +kernel), v, c, l, tb, bk, D9, rfl, M14.dev, by omega, fun tk2 H15 s15 htk2 hb15 => ?_⟩
    rw [el] at hb15
    refine ⟨_, rfl, .ref tk2, .ref tk, .list (L.map letD), .list (L.map letD), rfl, dp_backAt hb15, dp_backAt (hb14.same s15), letD_dep L, letD_wd L (by omega), fun H16 s16 => ⟨_, rfl, ?_⟩⟩
    rw [sm_self (letD_plain L)]
    refine iteF ?_
    have M16 := (M14.same s15).same s16
    exact ⟨_, _, _, _, _, _, _, _, _, _, _, rfl, Same.seq M16.xa hSA, M16.tabs⟩
end
end HN

namespace HN
open PySem PySem.Spec PyProof.Rows L2 LamX
theorem all_mk11 {l : PySem.W.OpenLaw} {w : World} {K : PySem.W.Frag} {h : Heap} {mg : Str → Option Value} {fa CB CV : Addr} (X : K.In h) (G : h.Ns mainGlobals mg) (hfa : mg "law" = some (.ref fa))
    {f1 : Addr} {od1 an1 : Option Addr} {sl1 : Array (Option Value)} {oc1 kV1 dc1 pm1 cd1 ct1 : Value}
    {f2 : Addr} {od2 an2 : Option Addr} {sl2 : Array (Option Value)} {oc2 kV2 dc2 pm2 cd2 ct2 : Value}
    {f3 : Addr} {od3 an3 : Option Addr} {sl3 : Array (Option Value)} {oc3 kV3 dc3 pm3 cd3 ct3 : Value}
    {f4 : Addr} {od4 an4 : Option Addr} {sl4 : Array (Option Value)} {oc4 kV4 dc4 pm4 cd4 ct4 : Value}
    {f5 : Addr} {od5 an5 : Option Addr} {sl5 : Array (Option Value)} {oc5 kV5 dc5 pm5 cd5 ct5 : Value}
    {f6 : Addr} {od6 an6 : Option Addr} {sl6 : Array (Option Value)} {oc6 kV6 dc6 pm6 cd6 ct6 : Value}
    {f7 : Addr} {od7 an7 : Option Addr} {sl7 : Array (Option Value)} {oc7 kV7 dc7 pm7 cd7 ct7 : Value}
    {f8 : Addr} {od8 an8 : Option Addr} {sl8 : Array (Option Value)} {oc8 kV8 dc8 pm8 cd8 ct8 : Value}
    {f9 : Addr} {od9 an9 : Option Addr} {sl9 : Array (Option Value)} {oc9 kV9 dc9 pm9 cd9 ct9 : Value}
    {f10 : Addr} {od10 an10 : Option Addr} {sl10 : Array (Option Value)} {oc10 kV10 dc10 pm10 cd10 ct10 : Value}
    {f11 : Addr} {od11 an11 : Option Addr} {sl11 : Array (Option Value)} {oc11 kV11 dc11 pm11 cd11 ct11 : Value}
    {f12 : Addr} {od12 an12 : Option Addr} {sl12 : Array (Option Value)} {oc12 kV12 dc12 pm12 cd12 ct12 : Value}
    {f13 : Addr} {od13 an13 : Option Addr} {sl13 : Array (Option Value)} {oc13 kV13 dc13 pm13 cd13 ct13 : Value}
    {f14 : Addr} {od14 an14 : Option Addr} {sl14 : Array (Option Value)} {oc14 kV14 dc14 pm14 cd14 ct14 : Value}
    {f15 : Addr} {od15 an15 : Option Addr} {sl15 : Array (Option Value)} {oc15 kV15 dc15 pm15 cd15 ct15 : Value}
    {f16 : Addr} {od16 an16 : Option Addr} {sl16 : Array (Option Value)} {oc16 kV16 dc16 pm16 cd16 ct16 : Value}
    {f17 : Addr} {od17 an17 : Option Addr} {sl17 : Array (Option Value)} {oc17 kV17 dc17 pm17 cd17 ct17 : Value}
    {f18 : Addr} {od18 an18 : Option Addr} {sl18 : Array (Option Value)} {oc18 kV18 dc18 pm18 cd18 ct18 : Value}
    {f19 : Addr} {od19 an19 : Option Addr} {sl19 : Array (Option Value)} {oc19 kV19 dc19 pm19 cd19 ct19 : Value}
    {f20 : Addr} {od20 an20 : Option Addr} {sl20 : Array (Option Value)} {oc20 kV20 dc20 pm20 cd20 ct20 : Value}
    {f21 : Addr} {od21 an21 : Option Addr} {sl21 : Array (Option Value)} {oc21 kV21 dc21 pm21 cd21 ct21 : Value}
    {f22 : Addr} {od22 an22 : Option Addr} {sl22 : Array (Option Value)} {oc22 kV22 dc22 pm22 cd22 ct22 : Value}
    {f23 : Addr} {od23 an23 : Option Addr} {sl23 : Array (Option Value)} {oc23 kV23 dc23 pm23 cd23 ct23 : Value}
    {f24 : Addr} {od24 an24 : Option Addr} {sl24 : Array (Option Value)} {oc24 kV24 dc24 pm24 cd24 ct24 : Value}
    {f25 : Addr} {od25 an25 : Option Addr} {sl25 : Array (Option Value)} {oc25 kV25 dc25 pm25 cd25 ct25 : Value}
    {f26 : Addr} {od26 an26 : Option Addr} {sl26 : Array (Option Value)} {oc26 kV26 dc26 pm26 cd26 ct26 : Value}
    {f27 : Addr} {od27 an27 : Option Addr} {sl27 : Array (Option Value)} {oc27 kV27 dc27 pm27 cd27 ct27 : Value}
    {f28 : Addr} {od28 an28 : Option Addr} {sl28 : Array (Option Value)} {oc28 kV28 dc28 pm28 cd28 ct28 : Value}
    {f29 cdL Pt : Addr} {od29 an29 oL : Option Addr} {sl29 slL : Array (Option Value)} {oc29 kV29 dc29 pm29 ct29 ccL : Value} {vL : Array Value}
    {CEK fEK ccEK cdEK : Addr} {odEK anEK o1EK o2EK : Option Addr} {slEK s1EK s2EK : Array (Option Value)} {ocEK kVEK dcEK pmEK ctEK c1EK c2EK : Value} {vEK : Array Value} {fileEK : Str} {tfEK : Tok} {nmEK qEK : Str} {NEK : Addr} {bsEK bmEK : List Value} {snEK : List Str} {subEK : List Value} {abEK : Bool} {colEK : Option Bool} {ddEK : Option Addr} {k0EK k1EK k2EK k3EK k5EK : Option Value}
    {CES fES ccES cdES : Addr} {odES anES o1ES o2ES : Option Addr} {slES s1ES s2ES : Array (Option Value)} {ocES kVES dcES pmES ctES c1ES c2ES : Value} {vES : Array Value} {fileES : Str} {tfES : Tok} {nmES qES : Str} {NES : Addr} {bsES bmES : List Value} {snES : List Str} {subES : List Value} {abES : Bool} {colES : Option Bool} {ddES : Option Addr} {k0ES k1ES k2ES k3ES k5ES : Option Value}
    {CEN fEN ccEN cdEN : Addr} {odEN anEN o1EN o2EN : Option Addr} {slEN s1EN s2EN : Array (Option Value)} {ocEN kVEN dcEN pmEN ctEN c1EN c2EN : Value} {vEN : Array Value} {fileEN : Str} {tfEN : Tok} {nmEN qEN : Str} {NEN : Addr} {bsEN bmEN : List Value} {snEN : List Str} {subEN : List Value} {abEN : Bool} {colEN : Option Bool} {ddEN : Option Addr} {k0EN k1EN k2EN k3EN k5EN : Option Value}
    {f30 : Addr} {od30 an30 : Option Addr} {sl30 : Array (Option Value)} {oc30 kV30 dc30 pm30 cd30 ct30 : Value}
    {f31 : Addr} {od31 an31 : Option Addr} {sl31 : Array (Option Value)} {oc31 kV31 dc31 pm31 cd31 ct31 : Value}
    {f32 : Addr} {od32 an32 : Option Addr} {sl32 : Array (Option Value)} {oc32 kV32 dc32 pm32 cd32 ct32 : Value}
    {f33 : Addr} {od33 an33 : Option Addr} {sl33 : Array (Option Value)} {oc33 kV33 dc33 pm33 cd33 ct33 : Value}
    {f34 : Addr} {od34 an34 : Option Addr} {sl34 : Array (Option Value)} {oc34 kV34 dc34 pm34 cd34 ct34 : Value}
    {f35 : Addr} {od35 an35 : Option Addr} {sl35 : Array (Option Value)} {oc35 kV35 dc35 pm35 cd35 ct35 : Value}
    {f36 : Addr} {od36 an36 : Option Addr} {sl36 : Array (Option Value)} {oc36 kV36 dc36 pm36 cd36 ct36 : Value}
    {f37 : Addr} {od37 an37 : Option Addr} {sl37 : Array (Option Value)} {oc37 kV37 dc37 pm37 cd37 ct37 : Value}
    {f38 : Addr} {od38 an38 : Option Addr} {sl38 : Array (Option Value)} {oc38 kV38 dc38 pm38 cd38 ct38 : Value}
    {f39 : Addr} {od39 an39 : Option Addr} {sl39 : Array (Option Value)} {oc39 kV39 dc39 pm39 cd39 ct39 : Value}
    {f40 : Addr} {od40 an40 : Option Addr} {sl40 : Array (Option Value)} {oc40 kV40 dc40 pm40 cd40 ct40 : Value}
    {f41 : Addr} {od41 an41 : Option Addr} {sl41 : Array (Option Value)} {oc41 kV41 dc41 pm41 cd41 ct41 : Value}
    {f42 : Addr} {od42 an42 : Option Addr} {sl42 : Array (Option Value)} {oc42 kV42 dc42 pm42 cd42 ct42 : Value}
    {f43 : Addr} {od43 an43 : Option Addr} {sl43 : Array (Option Value)} {oc43 kV43 dc43 pm43 cd43 ct43 : Value}
    {f44 : Addr} {od44 an44 : Option Addr} {sl44 : Array (Option Value)} {oc44 kV44 dc44 pm44 cd44 ct44 : Value}
    {f45 : Addr} {od45 an45 : Option Addr} {sl45 : Array (Option Value)} {oc45 kV45 dc45 pm45 cd45 ct45 : Value}
    {f46 Dk : Addr} {od46 an46 : Option Addr} {sl46 : Array (Option Value)} {oc46 dc46 pm46 cd46 ct46 : Value}
    {aA : Addr} {oA : Option Addr} {slA : Array (Option Value)} {tA tB tC tW : Tok} {nA : Nat}
    (aCB : PySem.W.nsIn K mainGlobals "Book" = some (some (.ref CB))) (pgB : PySem.W.plainGet K CB Str.empty = true) (hdB : PySem.W.hasDictIn K CB = true) (poB : PySem.W.plainOver K CB = true) (saB : PySem.W.findIn K (.ref CB) "__setattr__" = some (some (.builtin "object.__setattr__"))) (mkB : PySem.W.makesIn K CB = true) (kcB : PySem.W.keepIn K (.ref CB) = true)
    (aCV : PySem.W.nsIn K mainGlobals "Device" = some (some (.ref CV))) (pgV : PySem.W.plainGet K CV Str.empty = true) (hdV : PySem.W.hasDictIn K CV = true) (poV : PySem.W.plainOver K CV = true) (saV : PySem.W.findIn K (.ref CV) "__setattr__" = some (some (.builtin "object.__setattr__"))) (mkV : PySem.W.makesIn K CV = true) (kcV : PySem.W.keepIn K (.ref CV) = true)
    (a1 : PySem.W.nsIn K mainGlobals "is_list" = some (some (.ref f1))) (l1 : K.lookup f1 = some ⟨oc1, od1, .func (PySem.W.fnOf "is_list" "is_list" (defArgs sIsList) (defBody sIsList) (defScope sIsList) .none kV1 dc1 pm1 an1 cd1 ct1), sl1⟩) (c1 : PySem.W.codeIn K cd1 "is_list" = true) (k1 : PySem.W.keepIn K (.ref f1) = true)
    (a2 : PySem.W.nsIn K mainGlobals "is_int" = some (some (.ref f2))) (l2 : K.lookup f2 = some ⟨oc2, od2, .func (PySem.W.fnOf "is_int" "is_int" (defArgs sIsInt) (defBody sIsInt) (defScope sIsInt) .none kV2 dc2 pm2 an2 cd2 ct2), sl2⟩) (c2 : PySem.W.codeIn K cd2 "is_int" = true) (k2 : PySem.W.keepIn K (.ref f2) = true)
    (a3 : PySem.W.nsIn K mainGlobals "is_int_within" = some (some (.ref f3))) (l3 : K.lookup f3 = some ⟨oc3, od3, .func (PySem.W.fnOf "is_int_within" "is_int_within" (defArgs sIsIntWithin) (defBody sIsIntWithin) (defScope sIsIntWithin) .none kV3 dc3 pm3 an3 cd3 ct3), sl3⟩) (c3 : PySem.W.codeIn K cd3 "is_int_within" = true) (k3 : PySem.W.keepIn K (.ref f3) = true)
    (a4 : PySem.W.nsIn K mainGlobals "is_word" = some (some (.ref f4))) (l4 : K.lookup f4 = some ⟨oc4, od4, .func (PySem.W.fnOf "is_word" "is_word" (defArgs sIsWord) (defBody sIsWord) (defScope sIsWord) .none kV4 dc4 pm4 an4 cd4 ct4), sl4⟩) (c4 : PySem.W.codeIn K cd4 "is_word" = true) (k4 : PySem.W.keepIn K (.ref f4) = true)
    (a5 : PySem.W.nsIn K mainGlobals "is_word_list" = some (some (.ref f5))) (l5 : K.lookup f5 = some ⟨oc5, od5, .func (PySem.W.fnOf "is_word_list" "is_word_list" (defArgs sIsWordList) (defBody sIsWordList) (defScope sIsWordList) .none kV5 dc5 pm5 an5 cd5 ct5), sl5⟩) (c5 : PySem.W.codeIn K cd5 "is_word_list" = true) (k5 : PySem.W.keepIn K (.ref f5) = true)
    (a6 : PySem.W.nsIn K mainGlobals "age_of" = some (some (.ref f6))) (l6 : K.lookup f6 = some ⟨oc6, od6, .func (PySem.W.fnOf "age_of" "age_of" (defArgs sAgeOf) (defBody sAgeOf) (defScope sAgeOf) .none kV6 dc6 pm6 an6 cd6 ct6), sl6⟩) (c6 : PySem.W.codeIn K cd6 "age_of" = true) (k6 : PySem.W.keepIn K (.ref f6) = true)
    (a7 : PySem.W.nsIn K mainGlobals "idle_effect" = some (some (.ref f7))) (l7 : K.lookup f7 = some ⟨oc7, od7, .func (PySem.W.fnOf "idle_effect" "idle_effect" (defArgs sIdle) (defBody sIdle) (defScope sIdle) .none kV7 dc7 pm7 an7 cd7 ct7), sl7⟩) (c7 : PySem.W.codeIn K cd7 "idle_effect" = true) (k7 : PySem.W.keepIn K (.ref f7) = true)
    (a8 : PySem.W.nsIn K mainGlobals "is_key" = some (some (.ref f8))) (l8 : K.lookup f8 = some ⟨oc8, od8, .func (PySem.W.fnOf "is_key" "is_key" (defArgs sIsKey) (defBody sIsKey) (defScope sIsKey) .none kV8 dc8 pm8 an8 cd8 ct8), sl8⟩) (c8 : PySem.W.codeIn K cd8 "is_key" = true) (k8 : PySem.W.keepIn K (.ref f8) = true)
    (a9 : PySem.W.nsIn K mainGlobals "is_step" = some (some (.ref f9))) (l9 : K.lookup f9 = some ⟨oc9, od9, .func (PySem.W.fnOf "is_step" "is_step" (defArgs sIsStep) (defBody sIsStep) (defScope sIsStep) .none kV9 dc9 pm9 an9 cd9 ct9), sl9⟩) (c9 : PySem.W.codeIn K cd9 "is_step" = true) (k9 : PySem.W.keepIn K (.ref f9) = true)
    (a10 : PySem.W.nsIn K mainGlobals "is_effect" = some (some (.ref f10))) (l10 : K.lookup f10 = some ⟨oc10, od10, .func (PySem.W.fnOf "is_effect" "is_effect" (defArgs sIsEffect) (defBody sIsEffect) (defScope sIsEffect) .none kV10 dc10 pm10 an10 cd10 ct10), sl10⟩) (c10 : PySem.W.codeIn K cd10 "is_effect" = true) (k10 : PySem.W.keepIn K (.ref f10) = true)
    (a11 : PySem.W.nsIn K mainGlobals "told_effects" = some (some (.ref f11))) (l11 : K.lookup f11 = some ⟨oc11, od11, .func (PySem.W.fnOf "told_effects" "told_effects" (defArgs sToldEffects) (defBody sToldEffects) (defScope sToldEffects) .none kV11 dc11 pm11 an11 cd11 ct11), sl11⟩) (c11 : PySem.W.codeIn K cd11 "told_effects" = true) (k11 : PySem.W.keepIn K (.ref f11) = true)
    (a12 : PySem.W.nsIn K mainGlobals "told_worths" = some (some (.ref f12))) (l12 : K.lookup f12 = some ⟨oc12, od12, .func (PySem.W.fnOf "told_worths" "told_worths" (defArgs sToldWorths) (defBody sToldWorths) (defScope sToldWorths) .none kV12 dc12 pm12 an12 cd12 ct12), sl12⟩) (c12 : PySem.W.codeIn K cd12 "told_worths" = true) (k12 : PySem.W.keepIn K (.ref f12) = true)
    (a13 : PySem.W.nsIn K mainGlobals "check_key" = some (some (.ref f13))) (l13 : K.lookup f13 = some ⟨oc13, od13, .func (PySem.W.fnOf "check_key" "check_key" (defArgs sCheckKey) (defBody sCheckKey) (defScope sCheckKey) .none kV13 dc13 pm13 an13 cd13 ct13), sl13⟩) (c13 : PySem.W.codeIn K cd13 "check_key" = true) (k13 : PySem.W.keepIn K (.ref f13) = true)
    (a14 : PySem.W.nsIn K mainGlobals "check_letter" = some (some (.ref f14))) (l14 : K.lookup f14 = some ⟨oc14, od14, .func (PySem.W.fnOf "check_letter" "check_letter" (defArgs sCheckLetter) (defBody sCheckLetter) (defScope sCheckLetter) .none kV14 dc14 pm14 an14 cd14 ct14), sl14⟩) (c14 : PySem.W.codeIn K cd14 "check_letter" = true) (k14 : PySem.W.keepIn K (.ref f14) = true)
    (a15 : PySem.W.nsIn K mainGlobals "_law_source" = some (some (.ref f15))) (l15 : K.lookup f15 = some ⟨oc15, od15, .func (PySem.W.fnOf "_law_source" "_law_source" (defArgs sSource) (defBody sSource) (defScope sSource) .none kV15 dc15 pm15 an15 cd15 ct15), sl15⟩) (c15 : PySem.W.codeIn K cd15 "_law_source" = true) (k15 : PySem.W.keepIn K (.ref f15) = true)
    (a16 : PySem.W.nsIn K mainGlobals "_law_draw" = some (some (.ref f16))) (l16 : K.lookup f16 = some ⟨oc16, od16, .func (PySem.W.fnOf "_law_draw" "_law_draw" (defArgs sDraw) (defBody sDraw) (defScope sDraw) .none kV16 dc16 pm16 an16 cd16 ct16), sl16⟩) (c16 : PySem.W.codeIn K cd16 "_law_draw" = true) (k16 : PySem.W.keepIn K (.ref f16) = true)
    (a17 : PySem.W.nsIn K mainGlobals "_law_pick" = some (some (.ref f17))) (l17 : K.lookup f17 = some ⟨oc17, od17, .func (PySem.W.fnOf "_law_pick" "_law_pick" (defArgs sPick) (defBody sPick) (defScope sPick) .none kV17 dc17 pm17 an17 cd17 ct17), sl17⟩) (c17 : PySem.W.codeIn K cd17 "_law_pick" = true) (k17 : PySem.W.keepIn K (.ref f17) = true)
    (a18 : PySem.W.nsIn K mainGlobals "_law_same" = some (some (.ref f18))) (l18 : K.lookup f18 = some ⟨oc18, od18, .func (PySem.W.fnOf "_law_same" "_law_same" (defArgs sSame) (defBody sSame) (defScope sSame) .none kV18 dc18 pm18 an18 cd18 ct18), sl18⟩) (c18 : PySem.W.codeIn K cd18 "_law_same" = true) (k18 : PySem.W.keepIn K (.ref f18) = true)
    (a19 : PySem.W.nsIn K mainGlobals "_law_drawn_words" = some (some (.ref f19))) (l19 : K.lookup f19 = some ⟨oc19, od19, .func (PySem.W.fnOf "_law_drawn_words" "_law_drawn_words" (defArgs sWords) (defBody sWords) (defScope sWords) .none kV19 dc19 pm19 an19 cd19 ct19), sl19⟩) (c19 : PySem.W.codeIn K cd19 "_law_drawn_words" = true) (k19 : PySem.W.keepIn K (.ref f19) = true)
    (a20 : PySem.W.nsIn K mainGlobals "_law_random_effect" = some (some (.ref f20))) (l20 : K.lookup f20 = some ⟨oc20, od20, .func (PySem.W.fnOf "_law_random_effect" "_law_random_effect" (defArgs sEffect) (defBody sEffect) (defScope sEffect) .none kV20 dc20 pm20 an20 cd20 ct20), sl20⟩) (c20 : PySem.W.codeIn K cd20 "_law_random_effect" = true) (k20 : PySem.W.keepIn K (.ref f20) = true)
    (a21 : PySem.W.nsIn K mainGlobals "_law_step_menu" = some (some (.ref f21))) (l21 : K.lookup f21 = some ⟨oc21, od21, .func (PySem.W.fnOf "_law_step_menu" "_law_step_menu" (defArgs sSteps) (defBody sSteps) (defScope sSteps) .none kV21 dc21 pm21 an21 cd21 ct21), sl21⟩) (c21 : PySem.W.codeIn K cd21 "_law_step_menu" = true) (k21 : PySem.W.keepIn K (.ref f21) = true)
    (a22 : PySem.W.nsIn K mainGlobals "_law_wild" = some (some (.ref f22))) (l22 : K.lookup f22 = some ⟨oc22, od22, .func (PySem.W.fnOf "_law_wild" "_law_wild" (defArgs sWild) (defBody sWild) (defScope sWild) .none kV22 dc22 pm22 an22 cd22 ct22), sl22⟩) (c22 : PySem.W.codeIn K cd22 "_law_wild" = true) (k22 : PySem.W.keepIn K (.ref f22) = true)
    (a23 : PySem.W.nsIn K mainGlobals "_law_near" = some (some (.ref f23))) (l23 : K.lookup f23 = some ⟨oc23, od23, .func (PySem.W.fnOf "_law_near" "_law_near" (defArgs sNear) (defBody sNear) (defScope sNear) .none kV23 dc23 pm23 an23 cd23 ct23), sl23⟩) (c23 : PySem.W.codeIn K cd23 "_law_near" = true) (k23 : PySem.W.keepIn K (.ref f23) = true)
    (a24 : PySem.W.nsIn K mainGlobals "_law_some_plan" = some (some (.ref f24))) (l24 : K.lookup f24 = some ⟨oc24, od24, .func (PySem.W.fnOf "_law_some_plan" "_law_some_plan" (defArgs sPlan) (defBody sPlan) (defScope sPlan) .none kV24 dc24 pm24 an24 cd24 ct24), sl24⟩) (c24 : PySem.W.codeIn K cd24 "_law_some_plan" = true) (k24 : PySem.W.keepIn K (.ref f24) = true)
    (a25 : PySem.W.nsIn K mainGlobals "_law_book_of" = some (some (.ref f25))) (l25 : K.lookup f25 = some ⟨oc25, od25, .func (PySem.W.fnOf "_law_book_of" "_law_book_of" (defArgs sBookOf) (defBody sBookOf) (defScope sBookOf) .none kV25 dc25 pm25 an25 cd25 ct25), sl25⟩) (c25 : PySem.W.codeIn K cd25 "_law_book_of" = true) (k25 : PySem.W.keepIn K (.ref f25) = true)
    (a26 : PySem.W.nsIn K mainGlobals "_law_some_row" = some (some (.ref f26))) (l26 : K.lookup f26 = some ⟨oc26, od26, .func (PySem.W.fnOf "_law_some_row" "_law_some_row" (defArgs sLSomeRow) (defBody sLSomeRow) (defScope sLSomeRow) .none kV26 dc26 pm26 an26 cd26 ct26), sl26⟩) (c26 : PySem.W.codeIn K cd26 "_law_some_row" = true) (k26 : PySem.W.keepIn K (.ref f26) = true)
    (a27 : PySem.W.nsIn K mainGlobals "_law_tried" = some (some (.ref f27))) (l27 : K.lookup f27 = some ⟨oc27, od27, .func (PySem.W.fnOf "_law_tried" "_law_tried" (defArgs sLTried) (defBody sLTried) (defScope sLTried) .none kV27 dc27 pm27 an27 cd27 ct27), sl27⟩) (c27 : PySem.W.codeIn K cd27 "_law_tried" = true) (k27 : PySem.W.keepIn K (.ref f27) = true)
    (a28 : PySem.W.nsIn K mainGlobals "_law_due" = some (some (.ref f28))) (l28 : K.lookup f28 = some ⟨oc28, od28, .func (PySem.W.fnOf "_law_due" "_law_due" (defArgs sLDue) (defBody sLDue) (defScope sLDue) .none kV28 dc28 pm28 an28 cd28 ct28), sl28⟩) (c28 : PySem.W.codeIn K cd28 "_law_due" = true) (k28 : PySem.W.keepIn K (.ref f28) = true)
    (a29 : PySem.W.nsIn K mainGlobals "law" = some (some (.ref f29))) (l29 : K.lookup f29 = some ⟨oc29, od29, .func (PySem.W.fnOf "law" "law" (defArgs sLaw) (defBody sLaw) (defScope sLaw) .none kV29 dc29 pm29 an29 (.ref cdL) ct29), sl29⟩) (c29 : PySem.W.codeIn K (.ref cdL) "law" = true) (k29 : PySem.W.keepIn K (.ref f29) = true) (lcL : K.lookup cdL = some ⟨ccL, oL, .fields vL, slL⟩) (pt : vL[11]? = some (.ref Pt)) (hdL : PySem.W.codeHdIn K cdL Pt = true) (ptn : K.lookup Pt = none)
    (opS : PySem.W.nsIn K cStatics "thirdparty.any" = some none) (z_super : PySem.W.nsIn K mainGlobals "super" = some none) (topS : (l.prog.main.scope.names.lookup ("super" : Str)).isSome = false)
    (aEK : PySem.W.nsIn K mainGlobals "BadKey" = some (some (.ref CEK))) (xEK : K.lookup CEK = some (PySem.excClassObj nmEK qEK CEK NEK bsEK bmEK true snEK subEK abEK colEK ddEK k0EK k1EK k2EK k3EK k5EK "ValueError.__new__")) (rEK : PySem.HandSPX.refsVE bmEK = true) (saEK : PySem.W.findIn K (.ref CEK) "__setattr__" = some (some (.builtin "object.__setattr__"))) (eEK : PySem.W.subIn K (.ref CEK) (.type "BaseException") = some true) (tEK : PySem.W.typeIn K (.ref CEK) = some (.type "type")) (kEK : PySem.W.keepIn K (.ref CEK) = true) (suEK : PySem.W.mroIn K CEK (.ref CEK) = some true) (alEK : PySem.W.ks_superIn K CEK CEK "__init__" = some (some (.builtin "ValueError.__init__"))) (veEK : PySem.W.subIn K (.ref CEK) (.type "ValueError") = some true) (noEK : PySem.W.findIn K (.ref CEK) "key" = some none) (iEK : PySem.W.findIn K (.ref CEK) "__init__" = some (some (.ref fEK))) (tiEK : PySem.W.typeIn K (.ref fEK) = some (.type "function")) (lEK : K.lookup fEK = some ⟨ocEK, odEK, .func (PySem.W.ksFn "__init__" "BadKey.__init__" (defArgs (inClass sBadkey 0)) (defBody (inClass sBadkey 0)) (defScope (inClass sBadkey 0)) .none kVEK dcEK pmEK anEK (.ref cdEK) ctEK ccEK), slEK⟩) (cEK : PySem.W.codeIn K (.ref cdEK) "BadKey.__init__" = true) (qE1K : K.lookup ccEK = some ⟨c1EK, o1EK, .cell (some (.ref CEK)), s1EK⟩) (qE2K : K.lookup cdEK = some ⟨c2EK, o2EK, .fields vEK, s2EK⟩) (qE3K : vEK[2]? = some (.str fileEK tfEK)) (qE4K : ((l.prog.main.file : Str) == fileEK) = true) (gaEK : PySem.W.findIn K (.ref CEK) "__getattribute__" = some (some (.builtin "BaseException.__getattribute__"))) (ggEK : PySem.W.findIn K (.ref CEK) "__getattr__" = some none) (hdEK : PySem.W.hasDictIn K CEK = true)
    (aES : PySem.W.nsIn K mainGlobals "BadSort" = some (some (.ref CES))) (xES : K.lookup CES = some (PySem.excClassObj nmES qES CES NES bsES bmES true snES subES abES colES ddES k0ES k1ES k2ES k3ES k5ES "ValueError.__new__")) (rES : PySem.HandSPX.refsVE bmES = true) (saES : PySem.W.findIn K (.ref CES) "__setattr__" = some (some (.builtin "object.__setattr__"))) (eES : PySem.W.subIn K (.ref CES) (.type "BaseException") = some true) (tES : PySem.W.typeIn K (.ref CES) = some (.type "type")) (kES : PySem.W.keepIn K (.ref CES) = true) (suES : PySem.W.mroIn K CES (.ref CES) = some true) (alES : PySem.W.ks_superIn K CES CES "__init__" = some (some (.builtin "ValueError.__init__"))) (veES : PySem.W.subIn K (.ref CES) (.type "ValueError") = some true) (noES : PySem.W.findIn K (.ref CES) "word" = some none) (iES : PySem.W.findIn K (.ref CES) "__init__" = some (some (.ref fES))) (tiES : PySem.W.typeIn K (.ref fES) = some (.type "function")) (lES : K.lookup fES = some ⟨ocES, odES, .func (PySem.W.ksFn "__init__" "BadSort.__init__" (defArgs (inClass sBadsort 0)) (defBody (inClass sBadsort 0)) (defScope (inClass sBadsort 0)) .none kVES dcES pmES anES (.ref cdES) ctES ccES), slES⟩) (cES : PySem.W.codeIn K (.ref cdES) "BadSort.__init__" = true) (qE1S : K.lookup ccES = some ⟨c1ES, o1ES, .cell (some (.ref CES)), s1ES⟩) (qE2S : K.lookup cdES = some ⟨c2ES, o2ES, .fields vES, s2ES⟩) (qE3S : vES[2]? = some (.str fileES tfES)) (qE4S : ((l.prog.main.file : Str) == fileES) = true) (gaES : PySem.W.findIn K (.ref CES) "__getattribute__" = some (some (.builtin "BaseException.__getattribute__"))) (ggES : PySem.W.findIn K (.ref CES) "__getattr__" = some none) (hdES : PySem.W.hasDictIn K CES = true)
    (aEN : PySem.W.nsIn K mainGlobals "BadNumber" = some (some (.ref CEN))) (xEN : K.lookup CEN = some (PySem.excClassObj nmEN qEN CEN NEN bsEN bmEN true snEN subEN abEN colEN ddEN k0EN k1EN k2EN k3EN k5EN "ValueError.__new__")) (rEN : PySem.HandSPX.refsVE bmEN = true) (saEN : PySem.W.findIn K (.ref CEN) "__setattr__" = some (some (.builtin "object.__setattr__"))) (eEN : PySem.W.subIn K (.ref CEN) (.type "BaseException") = some true) (tEN : PySem.W.typeIn K (.ref CEN) = some (.type "type")) (kEN : PySem.W.keepIn K (.ref CEN) = true) (suEN : PySem.W.mroIn K CEN (.ref CEN) = some true) (alEN : PySem.W.ks_superIn K CEN CEN "__init__" = some (some (.builtin "ValueError.__init__"))) (veEN : PySem.W.subIn K (.ref CEN) (.type "ValueError") = some true) (noEN : PySem.W.findIn K (.ref CEN) "number" = some none) (iEN : PySem.W.findIn K (.ref CEN) "__init__" = some (some (.ref fEN))) (tiEN : PySem.W.typeIn K (.ref fEN) = some (.type "function")) (lEN : K.lookup fEN = some ⟨ocEN, odEN, .func (PySem.W.ksFn "__init__" "BadNumber.__init__" (defArgs (inClass sBadnumber 0)) (defBody (inClass sBadnumber 0)) (defScope (inClass sBadnumber 0)) .none kVEN dcEN pmEN anEN (.ref cdEN) ctEN ccEN), slEN⟩) (cEN : PySem.W.codeIn K (.ref cdEN) "BadNumber.__init__" = true) (qE1N : K.lookup ccEN = some ⟨c1EN, o1EN, .cell (some (.ref CEN)), s1EN⟩) (qE2N : K.lookup cdEN = some ⟨c2EN, o2EN, .fields vEN, s2EN⟩) (qE3N : vEN[2]? = some (.str fileEN tfEN)) (qE4N : ((l.prog.main.file : Str) == fileEN) = true) (gaEN : PySem.W.findIn K (.ref CEN) "__getattribute__" = some (some (.builtin "BaseException.__getattribute__"))) (ggEN : PySem.W.findIn K (.ref CEN) "__getattr__" = some none) (hdEN : PySem.W.hasDictIn K CEN = true)
    (xKK : PySem.W.exmOne K (.ref CEK) (.ref CEK) = some true) (xSK : PySem.W.exmOne K (.ref CES) (.ref CEK) = some false) (xSS : PySem.W.exmOne K (.ref CES) (.ref CES) = some true) (xNK : PySem.W.exmOne K (.ref CEN) (.ref CEK) = some false) (xNS : PySem.W.exmOne K (.ref CEN) (.ref CES) = some false) (xNN : PySem.W.exmOne K (.ref CEN) (.ref CEN) = some true)
    (a30 : PySem.W.findIn K (.ref CB) "sorts" = some (some (.ref f30))) (i30 : PySem.W.isFn K (.ref f30) = true) (l30 : K.lookup f30 = some ⟨oc30, od30, .func (PySem.W.fnOf "sorts" "Book.sorts" (defArgs sBSorts) (defBody sBSorts) (defScope sBSorts) .none kV30 dc30 pm30 an30 cd30 ct30), sl30⟩) (c30 : PySem.W.codeIn K cd30 "Book.sorts" = true) (k30 : PySem.W.keepIn K (.ref f30) = true)
    (a31 : PySem.W.findIn K (.ref CB) "first" = some (some (.ref f31))) (i31 : PySem.W.isFn K (.ref f31) = true) (l31 : K.lookup f31 = some ⟨oc31, od31, .func (PySem.W.fnOf "first" "Book.first" (defArgs sBFirst) (defBody sBFirst) (defScope sBFirst) .none kV31 dc31 pm31 an31 cd31 ct31), sl31⟩) (c31 : PySem.W.codeIn K cd31 "Book.first" = true) (k31 : PySem.W.keepIn K (.ref f31) = true)
    (a32 : PySem.W.findIn K (.ref CB) "worth" = some (some (.ref f32))) (i32 : PySem.W.isFn K (.ref f32) = true) (l32 : K.lookup f32 = some ⟨oc32, od32, .func (PySem.W.fnOf "worth" "Book.worth" (defArgs sBWorth) (defBody sBWorth) (defScope sBWorth) .none kV32 dc32 pm32 an32 cd32 ct32), sl32⟩) (c32 : PySem.W.codeIn K cd32 "Book.worth" = true) (k32 : PySem.W.keepIn K (.ref f32) = true)
    (a33 : PySem.W.findIn K (.ref CB) "effect" = some (some (.ref f33))) (i33 : PySem.W.isFn K (.ref f33) = true) (l33 : K.lookup f33 = some ⟨oc33, od33, .func (PySem.W.fnOf "effect" "Book.effect" (defArgs sBEffect) (defBody sBEffect) (defScope sBEffect) .none kV33 dc33 pm33 an33 cd33 ct33), sl33⟩) (c33 : PySem.W.codeIn K cd33 "Book.effect" = true) (k33 : PySem.W.keepIn K (.ref f33) = true)
    (a34 : PySem.W.findIn K (.ref CV) "__init__" = some (some (.ref f34))) (i34 : PySem.W.isFn K (.ref f34) = true) (l34 : K.lookup f34 = some ⟨oc34, od34, .func (PySem.W.fnOf "__init__" "Device.__init__" (defArgs sVInit) (defBody sVInit) (defScope sVInit) .none kV34 dc34 pm34 an34 cd34 ct34), sl34⟩) (c34 : PySem.W.codeIn K cd34 "Device.__init__" = true) (k34 : PySem.W.keepIn K (.ref f34) = true)
    (a35 : PySem.W.findIn K (.ref CV) "take" = some (some (.ref f35))) (i35 : PySem.W.isFn K (.ref f35) = true) (l35 : K.lookup f35 = some ⟨oc35, od35, .func (PySem.W.fnOf "take" "Device.take" (defArgs sVTake) (defBody sVTake) (defScope sVTake) .none kV35 dc35 pm35 an35 cd35 ct35), sl35⟩) (c35 : PySem.W.codeIn K cd35 "Device.take" = true) (k35 : PySem.W.keepIn K (.ref f35) = true)
    (a36 : PySem.W.findIn K (.ref CV) "_follow" = some (some (.ref f36))) (i36 : PySem.W.isFn K (.ref f36) = true) (l36 : K.lookup f36 = some ⟨oc36, od36, .func (PySem.W.fnOf "_follow" "Device._follow" (defArgs sVFollow) (defBody sVFollow) (defScope sVFollow) .none kV36 dc36 pm36 an36 cd36 ct36), sl36⟩) (c36 : PySem.W.codeIn K cd36 "Device._follow" = true) (k36 : PySem.W.keepIn K (.ref f36) = true)
    (a37 : PySem.W.findIn K (.ref CV) "_cell" = some (some (.ref f37))) (i37 : PySem.W.isFn K (.ref f37) = true) (l37 : K.lookup f37 = some ⟨oc37, od37, .func (PySem.W.fnOf "_cell" "Device._cell" (defArgs sVCell) (defBody sVCell) (defScope sVCell) .none kV37 dc37 pm37 an37 cd37 ct37), sl37⟩) (c37 : PySem.W.codeIn K cd37 "Device._cell" = true) (k37 : PySem.W.keepIn K (.ref f37) = true)
    (a38 : PySem.W.findIn K (.ref CV) "_right" = some (some (.ref f38))) (i38 : PySem.W.isFn K (.ref f38) = true) (l38 : K.lookup f38 = some ⟨oc38, od38, .func (PySem.W.fnOf "_right" "Device._right" (defArgs sVRight) (defBody sVRight) (defScope sVRight) .none kV38 dc38 pm38 an38 cd38 ct38), sl38⟩) (c38 : PySem.W.codeIn K cd38 "Device._right" = true) (k38 : PySem.W.keepIn K (.ref f38) = true)
    (a39 : PySem.W.findIn K (.ref CV) "state" = some (some (.ref f39))) (i39 : PySem.W.isFn K (.ref f39) = true) (l39 : K.lookup f39 = some ⟨oc39, od39, .func (PySem.W.fnOf "state" "Device.state" (defArgs sVState) (defBody sVState) (defScope sVState) .none kV39 dc39 pm39 an39 cd39 ct39), sl39⟩) (c39 : PySem.W.codeIn K cd39 "Device.state" = true) (k39 : PySem.W.keepIn K (.ref f39) = true)
    (a40 : PySem.W.findIn K (.ref CV) "held" = some (some (.ref f40))) (i40 : PySem.W.isFn K (.ref f40) = true) (l40 : K.lookup f40 = some ⟨oc40, od40, .func (PySem.W.fnOf "held" "Device.held" (defArgs sVHeld) (defBody sVHeld) (defScope sVHeld) .none kV40 dc40 pm40 an40 cd40 ct40), sl40⟩) (c40 : PySem.W.codeIn K cd40 "Device.held" = true) (k40 : PySem.W.keepIn K (.ref f40) = true)
    (a41 : PySem.W.findIn K (.ref CV) "met" = some (some (.ref f41))) (i41 : PySem.W.isFn K (.ref f41) = true) (l41 : K.lookup f41 = some ⟨oc41, od41, .func (PySem.W.fnOf "met" "Device.met" (defArgs sVMet) (defBody sVMet) (defScope sVMet) .none kV41 dc41 pm41 an41 cd41 ct41), sl41⟩) (c41 : PySem.W.codeIn K cd41 "Device.met" = true) (k41 : PySem.W.keepIn K (.ref f41) = true)
    (a42 : PySem.W.findIn K (.ref CV) "badge" = some (some (.ref f42))) (i42 : PySem.W.isFn K (.ref f42) = true) (l42 : K.lookup f42 = some ⟨oc42, od42, .func (PySem.W.fnOf "badge" "Device.badge" (defArgs sVBadge) (defBody sVBadge) (defScope sVBadge) .none kV42 dc42 pm42 an42 cd42 ct42), sl42⟩) (c42 : PySem.W.codeIn K cd42 "Device.badge" = true) (k42 : PySem.W.keepIn K (.ref f42) = true)
    (a43 : PySem.W.findIn K (.ref CV) "letters" = some (some (.ref f43))) (i43 : PySem.W.isFn K (.ref f43) = true) (l43 : K.lookup f43 = some ⟨oc43, od43, .func (PySem.W.fnOf "letters" "Device.letters" (defArgs sVLetters) (defBody sVLetters) (defScope sVLetters) .none kV43 dc43 pm43 an43 cd43 ct43), sl43⟩) (c43 : PySem.W.codeIn K cd43 "Device.letters" = true) (k43 : PySem.W.keepIn K (.ref f43) = true)
    (a44 : PySem.W.findIn K (.ref CV) "undo" = some (some (.ref f44))) (i44 : PySem.W.isFn K (.ref f44) = true) (l44 : K.lookup f44 = some ⟨oc44, od44, .func (PySem.W.fnOf "undo" "Device.undo" (defArgs sVUndo) (defBody sVUndo) (defScope sVUndo) .none kV44 dc44 pm44 an44 cd44 ct44), sl44⟩) (c44 : PySem.W.codeIn K cd44 "Device.undo" = true) (k44 : PySem.W.keepIn K (.ref f44) = true)
    (a45 : PySem.W.findIn K (.ref CV) "again" = some (some (.ref f45))) (i45 : PySem.W.isFn K (.ref f45) = true) (l45 : K.lookup f45 = some ⟨oc45, od45, .func (PySem.W.fnOf "again" "Device.again" (defArgs sVAgain) (defBody sVAgain) (defScope sVAgain) .none kV45 dc45 pm45 an45 cd45 ct45), sl45⟩) (c45 : PySem.W.codeIn K cd45 "Device.again" = true) (k45 : PySem.W.keepIn K (.ref f45) = true)
    (a46 : PySem.W.findIn K (.ref CB) "__init__" = some (some (.ref f46))) (i46 : PySem.W.isFn K (.ref f46) = true) (l46 : K.lookup f46 = some ⟨oc46, od46, .func (PySem.W.fnOf "__init__" "Book.__init__" (defArgs sBInit) (defBody sBInit) (defScope sBInit) .none (.ref Dk) dc46 pm46 an46 cd46 ct46), sl46⟩) (c46 : PySem.W.codeIn K cd46 "Book.__init__" = true) (k46 : PySem.W.keepIn K (.ref f46) = true) (kw : PySem.W.nsIn K Dk "worths" = some (some .none))
    (nB0 : PySem.W.findIn K (.ref CB) "_states" = some none)
    (nB1 : PySem.W.findIn K (.ref CB) "_sorts" = some none)
    (nB2 : PySem.W.findIn K (.ref CB) "_first" = some none)
    (nB3 : PySem.W.findIn K (.ref CB) "_effects" = some none)
    (nB4 : PySem.W.findIn K (.ref CB) "_worths" = some none)
    (nB5 : PySem.W.findIn K (.ref CB) "_traits" = some none)
    (nV0 : PySem.W.findIn K (.ref CV) "_book" = some none)
    (nV1 : PySem.W.findIn K (.ref CV) "_cells" = some none)
    (nV2 : PySem.W.findIn K (.ref CV) "_badge" = some none)
    (nV3 : PySem.W.findIn K (.ref CV) "_past" = some none)
    (nV4 : PySem.W.findIn K (.ref CV) "_taken_back" = some none)
    (z_str : PySem.W.nsIn K mainGlobals "str" = some none)
    (z_dict : PySem.W.nsIn K mainGlobals "dict" = some none)
    (z_set : PySem.W.nsIn K mainGlobals "set" = some none)
    (z_sorted : PySem.W.nsIn K mainGlobals "sorted" = some none)
    (z_range : PySem.W.nsIn K mainGlobals "range" = some none)
    (z_min : PySem.W.nsIn K mainGlobals "min" = some none)
    (z_sum : PySem.W.nsIn K mainGlobals "sum" = some none)
    (z_len : PySem.W.nsIn K mainGlobals "len" = some none)
    (z_int : PySem.W.nsIn K mainGlobals "int" = some none)
    (z_isinstance : PySem.W.nsIn K mainGlobals "isinstance" = some none)
    (z_all : PySem.W.nsIn K mainGlobals "all" = some none)
    (z_zip : PySem.W.nsIn K mainGlobals "zip" = some none)
    (z_list : PySem.W.nsIn K mainGlobals "list" = some none)
    (z_tuple : PySem.W.nsIn K mainGlobals "tuple" = some none)
    (z_bool : PySem.W.nsIn K mainGlobals "bool" = some none)
    (ag : PySem.W.nsIn K mainGlobals "AGES" = some (some (.ref aA))) (al : K.lookup aA = some ⟨.type "tuple", oA, .seq #[.str "newer" tA, .str "same" tB, .str "elder" tC] nA, slA⟩) (wh : PySem.W.nsIn K mainGlobals "WHOLE" = some (some (.str "whole" tW)))
    (hTab : h.get? Pt = some { cls := .none, data := .fields #[] }) : LawAtS l w K CX0 9 63 "_law_script" mg fa h := by
  have e := hfa.symm.trans (PySem.W.mg_of X G a29)
  cases e
  have T : Txt K mg := { str := PySem.W.mg_none_of X G z_str, dict := PySem.W.mg_none_of X G z_dict, set := PySem.W.mg_none_of X G z_set, sorted := PySem.W.mg_none_of X G z_sorted, range := PySem.W.mg_none_of X G z_range, min := PySem.W.mg_none_of X G z_min, sum := PySem.W.mg_none_of X G z_sum, len := PySem.W.mg_none_of X G z_len, int := PySem.W.mg_none_of X G z_int, isi := PySem.W.mg_none_of X G z_isinstance, all := PySem.W.mg_none_of X G z_all, zip := PySem.W.mg_none_of X G z_zip, list := PySem.W.mg_none_of X G z_list, tuple := PySem.W.mg_none_of X G z_tuple, bool := PySem.W.mg_none_of X G z_bool }
  have Cn : Cons K mg := ⟨⟨aA, PySem.W.mg_of X G ag, fun H => .inr ⟨_, _, _, al, rfl, rfl, (by show 3 ≤ sizeLine; decide), .cons ⟨_, rfl⟩ (.cons ⟨_, rfl⟩ (.cons ⟨_, rfl⟩ .nil))⟩⟩, ⟨_, PySem.W.mg_of X G wh⟩⟩
  have BC : BookC K mg CB := ⟨⟨pgB, hdB, poB, saB⟩, nB0, nB1, nB2, nB3, nB4, nB5, PySem.W.mg_of X G aCB⟩
  have DC : DevC K mg CV := ⟨⟨pgV, hdV, poV, saV⟩, nV0, nV1, nV2, nV3, nV4, PySem.W.mg_of X G aCV⟩
  have F1 := fun_mk (st := sIsList) l1 c1 k1
  have D1 : Def K mg "is_list" sIsList ["thing"] f1 _ := ⟨F1, PySem.W.mg_of X G a1, F1.binds (ps := ["thing"]) fun _ _ _ _ _ _ us hl => match us, hl with | [_], _ => rfl⟩
  have F2 := fun_mk (st := sIsInt) l2 c2 k2
  have D2 : Def K mg "is_int" sIsInt ["thing"] f2 _ := ⟨F2, PySem.W.mg_of X G a2, F2.binds (ps := ["thing"]) fun _ _ _ _ _ _ us hl => match us, hl with | [_], _ => rfl⟩
  have F3 := fun_mk (st := sIsIntWithin) l3 c3 k3
  have D3 : Def K mg "is_int_within" sIsIntWithin ["thing", "least", "greatest"] f3 _ := ⟨F3, PySem.W.mg_of X G a3, F3.binds (ps := ["thing", "least", "greatest"]) fun _ _ _ _ _ _ us hl => match us, hl with | [_, _, _], _ => rfl⟩
  have F4 := fun_mk (st := sIsWord) l4 c4 k4
  have D4 : Def K mg "is_word" sIsWord ["thing"] f4 _ := ⟨F4, PySem.W.mg_of X G a4, F4.binds (ps := ["thing"]) fun _ _ _ _ _ _ us hl => match us, hl with | [_], _ => rfl⟩
  have F5 := fun_mk (st := sIsWordList) l5 c5 k5
  have D5 : Def K mg "is_word_list" sIsWordList ["thing", "most"] f5 _ := ⟨F5, PySem.W.mg_of X G a5, F5.binds (ps := ["thing", "most"]) fun _ _ _ _ _ _ us hl => match us, hl with | [_, _], _ => rfl⟩
  have F6 := fun_mk (st := sAgeOf) l6 c6 k6
  have D6 : Def K mg "age_of" sAgeOf ["number", "held"] f6 _ := ⟨F6, PySem.W.mg_of X G a6, F6.binds (ps := ["number", "held"]) fun _ _ _ _ _ _ us hl => match us, hl with | [_, _], _ => rfl⟩
  have F7 := fun_mk (st := sIdle) l7 c7 k7
  have D7 : Def K mg "idle_effect" sIdle ["state"] f7 _ := ⟨F7, PySem.W.mg_of X G a7, F7.binds (ps := ["state"]) fun _ _ _ _ _ _ us hl => match us, hl with | [_], _ => rfl⟩
  have F8 := fun_mk (st := sIsKey) l8 c8 k8
  have D8 : Def K mg "is_key" sIsKey ["thing", "states", "sorts"] f8 _ := ⟨F8, PySem.W.mg_of X G a8, F8.binds (ps := ["thing", "states", "sorts"]) fun _ _ _ _ _ _ us hl => match us, hl with | [_, _, _], _ => rfl⟩
  have F9 := fun_mk (st := sIsStep) l9 c9 k9
  have D9 : Def K mg "is_step" sIsStep ["thing"] f9 _ := ⟨F9, PySem.W.mg_of X G a9, F9.binds (ps := ["thing"]) fun _ _ _ _ _ _ us hl => match us, hl with | [_], _ => rfl⟩
  have F10 := fun_mk (st := sIsEffect) l10 c10 k10
  have D10 : Def K mg "is_effect" sIsEffect ["thing", "states"] f10 _ := ⟨F10, PySem.W.mg_of X G a10, F10.binds (ps := ["thing", "states"]) fun _ _ _ _ _ _ us hl => match us, hl with | [_, _], _ => rfl⟩
  have F11 := fun_mk (st := sToldEffects) l11 c11 k11
  have D11 : Def K mg "told_effects" sToldEffects ["rows", "states", "sorts"] f11 _ := ⟨F11, PySem.W.mg_of X G a11, F11.binds (ps := ["rows", "states", "sorts"]) fun _ _ _ _ _ _ us hl => match us, hl with | [_, _, _], _ => rfl⟩
  have F12 := fun_mk (st := sToldWorths) l12 c12 k12
  have D12 : Def K mg "told_worths" sToldWorths ["worths", "states"] f12 _ := ⟨F12, PySem.W.mg_of X G a12, F12.binds (ps := ["worths", "states"]) fun _ _ _ _ _ _ us hl => match us, hl with | [_, _], _ => rfl⟩
  have F13 := fun_mk (st := sCheckKey) l13 c13 k13
  have D13 : Def K mg "check_key" sCheckKey ["key"] f13 _ := ⟨F13, PySem.W.mg_of X G a13, F13.binds (ps := ["key"]) fun _ _ _ _ _ _ us hl => match us, hl with | [_], _ => rfl⟩
  have F14 := fun_mk (st := sCheckLetter) l14 c14 k14
  have D14 : Def K mg "check_letter" sCheckLetter ["key", "sort", "number", "sorts"] f14 _ := ⟨F14, PySem.W.mg_of X G a14, F14.binds (ps := ["key", "sort", "number", "sorts"]) fun _ _ _ _ _ _ us hl => match us, hl with | [_, _, _, _], _ => rfl⟩
  have F15 := fun_mk (st := sSource) l15 c15 k15
  have D15 : Def K mg "_law_source" sSource ["_law_script", "_law_place"] f15 _ := ⟨F15, PySem.W.mg_of X G a15, F15.binds (ps := ["_law_script", "_law_place"]) fun _ _ _ _ _ _ us hl => match us, hl with | [_, _], _ => rfl⟩
  have F16 := fun_mk (st := sDraw) l16 c16 k16
  have D16 : Def K mg "_law_draw" sDraw ["_law_draws", "_law_many"] f16 _ := ⟨F16, PySem.W.mg_of X G a16, F16.binds (ps := ["_law_draws", "_law_many"]) fun _ _ _ _ _ _ us hl => match us, hl with | [_, _], _ => rfl⟩
  have F17 := fun_mk (st := sPick) l17 c17 k17
  have D17 : Def K mg "_law_pick" sPick ["_law_draws", "_law_xs"] f17 _ := ⟨F17, PySem.W.mg_of X G a17, F17.binds (ps := ["_law_draws", "_law_xs"]) fun _ _ _ _ _ _ us hl => match us, hl with | [_, _], _ => rfl⟩
  have F18 := fun_mk (st := sSame) l18 c18 k18
  have D18 : Def K mg "_law_same" sSame ["_law_found", "_law_due_here"] f18 _ := ⟨F18, PySem.W.mg_of X G a18, F18.binds (ps := ["_law_found", "_law_due_here"]) fun _ _ _ _ _ _ us hl => match us, hl with | [_, _], _ => rfl⟩
  have F19 := fun_mk (st := sWords) l19 c19 k19
  have D19 : Def K mg "_law_drawn_words" sWords ["_law_draws", "_law_many"] f19 _ := ⟨F19, PySem.W.mg_of X G a19, F19.binds (ps := ["_law_draws", "_law_many"]) fun _ _ _ _ _ _ us hl => match us, hl with | [_, _], _ => rfl⟩
  have F20 := fun_mk (st := sEffect) l20 c20 k20
  have D20 : Def K mg "_law_random_effect" sEffect ["_law_draws", "_law_states", "_law_steps"] f20 _ := ⟨F20, PySem.W.mg_of X G a20, F20.binds (ps := ["_law_draws", "_law_states", "_law_steps"]) fun _ _ _ _ _ _ us hl => match us, hl with | [_, _, _], _ => rfl⟩
  have F21 := fun_mk (st := sSteps) l21 c21 k21
  have D21 : Def K mg "_law_step_menu" sSteps ["_law_draws"] f21 _ := ⟨F21, PySem.W.mg_of X G a21, F21.binds (ps := ["_law_draws"]) fun _ _ _ _ _ _ us hl => match us, hl with | [_], _ => rfl⟩
  have F22 := fun_mk (st := sWild) l22 c22 k22
  have D22 : Def K mg "_law_wild" sWild ["_law_draws"] f22 _ := ⟨F22, PySem.W.mg_of X G a22, F22.binds (ps := ["_law_draws"]) fun _ _ _ _ _ _ us hl => match us, hl with | [_], _ => rfl⟩
  have F23 := fun_mk (st := sNear) l23 c23 k23
  have D23 : Def K mg "_law_near" sNear ["_law_draws"] f23 _ := ⟨F23, PySem.W.mg_of X G a23, F23.binds (ps := ["_law_draws"]) fun _ _ _ _ _ _ us hl => match us, hl with | [_], _ => rfl⟩
  have F24 := fun_mk (st := sPlan) l24 c24 k24
  have D24 : Def K mg "_law_some_plan" sPlan ["_law_draws"] f24 _ := ⟨F24, PySem.W.mg_of X G a24, F24.binds (ps := ["_law_draws"]) fun _ _ _ _ _ _ us hl => match us, hl with | [_], _ => rfl⟩
  have F25 := fun_mk (st := sBookOf) l25 c25 k25
  have D25 : Def K mg "_law_book_of" sBookOf ["_law_plan"] f25 _ := ⟨F25, PySem.W.mg_of X G a25, F25.binds (ps := ["_law_plan"]) fun _ _ _ _ _ _ us hl => match us, hl with | [_], _ => rfl⟩
  have F26 := fun_mk (st := sLSomeRow) l26 c26 k26
  have D26 : Def K mg "_law_some_row" sLSomeRow ["_law_draws", "_law_plan", "_law_most", "_law_wide"] f26 _ := ⟨F26, PySem.W.mg_of X G a26, F26.binds (ps := ["_law_draws", "_law_plan", "_law_most", "_law_wide"]) fun _ _ _ _ _ _ us hl => match us, hl with | [_, _, _, _], _ => rfl⟩
  have F27 := fun_mk (st := sLTried) l27 c27 k27
  have D27 : Def K mg "_law_tried" sLTried ["_law_work"] f27 _ := ⟨F27, PySem.W.mg_of X G a27, F27.binds (ps := ["_law_work"]) fun _ _ _ _ _ _ us hl => match us, hl with | [_], _ => rfl⟩
  have F28 := fun_mk (st := sLDue) l28 c28 k28
  have D28 : Def K mg "_law_due" sLDue ["_law_plan", "_law_key", "_law_sort", "_law_number"] f28 _ := ⟨F28, PySem.W.mg_of X G a28, F28.binds (ps := ["_law_plan", "_law_key", "_law_sort", "_law_number"]) fun _ _ _ _ _ _ us hl => match us, hl with | [_, _, _, _], _ => rfl⟩
  have F30 := fun_mk (st := sBSorts) l30 c30 k30
  have b30 := F30.binds (ps := ["self"]) fun _ _ _ _ _ _ us hl => match us, hl with | [_], _ => rfl
  have M30 : Meth K CB "sorts" f30 := ⟨a30, i30, k30⟩
  have F31 := fun_mk (st := sBFirst) l31 c31 k31
  have b31 := F31.binds (ps := ["self"]) fun _ _ _ _ _ _ us hl => match us, hl with | [_], _ => rfl
  have M31 : Meth K CB "first" f31 := ⟨a31, i31, k31⟩
  have F32 := fun_mk (st := sBWorth) l32 c32 k32
  have b32 := F32.binds (ps := ["self", "state"]) fun _ _ _ _ _ _ us hl => match us, hl with | [_, _], _ => rfl
  have M32 : Meth K CB "worth" f32 := ⟨a32, i32, k32⟩
  have F33 := fun_mk (st := sBEffect) l33 c33 k33
  have b33 := F33.binds (ps := ["self", "state", "sort", "age"]) fun _ _ _ _ _ _ us hl => match us, hl with | [_, _, _, _], _ => rfl
  have M33 : Meth K CB "effect" f33 := ⟨a33, i33, k33⟩
  have F34 := fun_mk (st := sVInit) l34 c34 k34
  have b34 := F34.binds (ps := ["self", "book"]) fun _ _ _ _ _ _ us hl => match us, hl with | [_, _], _ => rfl
  have M34 : Meth K CV "__init__" f34 := ⟨a34, i34, k34⟩
  have F35 := fun_mk (st := sVTake) l35 c35 k35
  have b35 := F35.binds (ps := ["self", "key", "sort", "number"]) fun _ _ _ _ _ _ us hl => match us, hl with | [_, _, _, _], _ => rfl
  have M35 : Meth K CV "take" f35 := ⟨a35, i35, k35⟩
  have F36 := fun_mk (st := sVFollow) l36 c36 k36
  have b36 := F36.binds (ps := ["self", "key", "sort", "number"]) fun _ _ _ _ _ _ us hl => match us, hl with | [_, _, _, _], _ => rfl
  have M36 : Meth K CV "_follow" f36 := ⟨a36, i36, k36⟩
  have F37 := fun_mk (st := sVCell) l37 c37 k37
  have b37 := F37.binds (ps := ["self", "key"]) fun _ _ _ _ _ _ us hl => match us, hl with | [_, _], _ => rfl
  have M37 : Meth K CV "_cell" f37 := ⟨a37, i37, k37⟩
  have F38 := fun_mk (st := sVRight) l38 c38 k38
  have b38 := F38.binds (ps := ["self"]) fun _ _ _ _ _ _ us hl => match us, hl with | [_], _ => rfl
  have M38 : Meth K CV "_right" f38 := ⟨a38, i38, k38⟩
  have F39 := fun_mk (st := sVState) l39 c39 k39
  have b39 := F39.binds (ps := ["self", "key"]) fun _ _ _ _ _ _ us hl => match us, hl with | [_, _], _ => rfl
  have M39 : Meth K CV "state" f39 := ⟨a39, i39, k39⟩
  have F40 := fun_mk (st := sVHeld) l40 c40 k40
  have b40 := F40.binds (ps := ["self", "key"]) fun _ _ _ _ _ _ us hl => match us, hl with | [_, _], _ => rfl
  have M40 : Meth K CV "held" f40 := ⟨a40, i40, k40⟩
  have F41 := fun_mk (st := sVMet) l41 c41 k41
  have b41 := F41.binds (ps := ["self"]) fun _ _ _ _ _ _ us hl => match us, hl with | [_], _ => rfl
  have M41 : Meth K CV "met" f41 := ⟨a41, i41, k41⟩
  have F42 := fun_mk (st := sVBadge) l42 c42 k42
  have b42 := F42.binds (ps := ["self"]) fun _ _ _ _ _ _ us hl => match us, hl with | [_], _ => rfl
  have M42 : Meth K CV "badge" f42 := ⟨a42, i42, k42⟩
  have F43 := fun_mk (st := sVLetters) l43 c43 k43
  have b43 := F43.binds (ps := ["self"]) fun _ _ _ _ _ _ us hl => match us, hl with | [_], _ => rfl
  have M43 : Meth K CV "letters" f43 := ⟨a43, i43, k43⟩
  have F44 := fun_mk (st := sVUndo) l44 c44 k44
  have b44 := F44.binds (ps := ["self"]) fun _ _ _ _ _ _ us hl => match us, hl with | [_], _ => rfl
  have M44 : Meth K CV "undo" f44 := ⟨a44, i44, k44⟩
  have F45 := fun_mk (st := sVAgain) l45 c45 k45
  have b45 := F45.binds (ps := ["self"]) fun _ _ _ _ _ _ us hl => match us, hl with | [_], _ => rfl
  have M45 : Meth K CV "again" f45 := ⟨a45, i45, k45⟩
  have FB : FunD K "__init__" "Book.__init__" (defArgs sBInit) (defBody sBInit) (defScope sBInit) [] [("worths", .non)] f46 _ := ⟨⟨_, _, _, _, _, _, _, _, _, _, rfl, l46, c46, .inl ⟨rfl, rfl⟩, .inr ⟨Dk, rfl, fun p hp => by
    rw [List.mem_singleton] at hp
    subst hp
    exact ⟨_, kw, rfl⟩⟩⟩, k46⟩
  have MB : Mk K CB f46 := ⟨mkB, a46, i46, kcB⟩
  have MV : Mk K CV f34 := ⟨mkV, a34, i34, kcV⟩
  have oEK : OexC K CEK := ⟨⟨_, _, _, _, _, _, _, _, _, _, _, _, _, _, _, xEK, rEK⟩, saEK, eEK, tEK, kEK⟩
  have uEK : ∃ cd, PySem.W.clsIn K CEK = some cd := ⟨_, by unfold PySem.W.clsIn; rw [xEK] <;> rfl⟩
  have REK : ErrC l.prog K mg "BadKey" "BadKey.__init__" "key" "key" CEK fEK _ := ⟨PySem.W.mg_of X G aEK, ⟨oEK, uEK, suEK, alEK, veEK, opS, noEK, topS, PySem.W.mg_none_of X G z_super⟩, ⟨⟨_, _, _, _, _, _, _, _, _, _, _, _, _, _, _, _, _, _, _, _, _, _, _, _, _, _, _, _, _, _, _, _, _, _, _, rfl, rfl, rfl, lEK, cEK, qE1K, qE2K, qE3K, qE4K, rfl, rfl, rfl, rfl, rfl, by decide +kernel, by decide +kernel, rfl, rfl, rfl, rfl⟩⟩, iEK, tiEK, .all (fun us hl => match us, hl with | [_, _], _ => rfl), ⟨gaEK, ggEK, eEK, hdEK⟩⟩
  have oES : OexC K CES := ⟨⟨_, _, _, _, _, _, _, _, _, _, _, _, _, _, _, xES, rES⟩, saES, eES, tES, kES⟩
  have uES : ∃ cd, PySem.W.clsIn K CES = some cd := ⟨_, by unfold PySem.W.clsIn; rw [xES] <;> rfl⟩
  have RES : ErrC l.prog K mg "BadSort" "BadSort.__init__" "word" "word" CES fES _ := ⟨PySem.W.mg_of X G aES, ⟨oES, uES, suES, alES, veES, opS, noES, topS, PySem.W.mg_none_of X G z_super⟩, ⟨⟨_, _, _, _, _, _, _, _, _, _, _, _, _, _, _, _, _, _, _, _, _, _, _, _, _, _, _, _, _, _, _, _, _, _, _, rfl, rfl, rfl, lES, cES, qE1S, qE2S, qE3S, qE4S, rfl, rfl, rfl, rfl, rfl, by decide +kernel, by decide +kernel, rfl, rfl, rfl, rfl⟩⟩, iES, tiES, .all (fun us hl => match us, hl with | [_, _], _ => rfl), ⟨gaES, ggES, eES, hdES⟩⟩
  have oEN : OexC K CEN := ⟨⟨_, _, _, _, _, _, _, _, _, _, _, _, _, _, _, xEN, rEN⟩, saEN, eEN, tEN, kEN⟩
  have uEN : ∃ cd, PySem.W.clsIn K CEN = some cd := ⟨_, by unfold PySem.W.clsIn; rw [xEN] <;> rfl⟩
  have REN : ErrC l.prog K mg "BadNumber" "BadNumber.__init__" "number" "number" CEN fEN _ := ⟨PySem.W.mg_of X G aEN, ⟨oEN, uEN, suEN, alEN, veEN, opS, noEN, topS, PySem.W.mg_none_of X G z_super⟩, ⟨⟨_, _, _, _, _, _, _, _, _, _, _, _, _, _, _, _, _, _, _, _, _, _, _, _, _, _, _, _, _, _, _, _, _, _, _, rfl, rfl, rfl, lEN, cEN, qE1N, qE2N, qE3N, qE4N, rfl, rfl, rfl, rfl, rfl, by decide +kernel, by decide +kernel, rfl, rfl, rfl, rfl⟩⟩, iEN, tiEN, .all (fun us hl => match us, hl with | [_, _], _ => rfl), ⟨gaEN, ggEN, eEN, hdEN⟩⟩
  have EX : Exm3 K CEK CES CEN := ⟨xKK, xSK, xSS, xNK, xNS, xNN⟩
  have FL : FunC K "law" "law" sLaw fa _ cdL := ⟨⟨_, _, _, _, _, _, _, _, rfl, l29, c29⟩, k29⟩
  refine ⟨PySem.W.fnOf "law" "law" (defArgs sLaw) (defBody sLaw) (defScope sLaw) .none kV29 dc29 pm29 an29 (.ref cdL) ct29, [(cdL, Pt)], spLaw11 K Pt, fun p hp => ?_, fun p hp => ?_, fun p hp => ?_, fun s v => .of_eq rfl, fun H a ns hl _ hT hS => ⟨a, ns, rfl, hS, Nat.le_trans hl (by decide), fun p hp => ?_, fun _ => rfl⟩, fun base KB _ hTB => ?_⟩
  · rw [List.mem_singleton] at hp; subst hp; exact hTab
  · rw [List.mem_singleton] at hp; subst hp; exact ptn
  · rw [List.mem_singleton] at hp; subst hp; exact PySem.W.codeHd_of_K X hdL
  · rw [List.mem_singleton] at hp; subst hp; exact TabS.nil (hT (cdL, Pt) (List.mem_singleton.mpr rfl))
  have TB := hTB (cdL, Pt) (List.mem_singleton.mpr rfl)
  have G1 := ok_isList (P := l.prog) (w := w) (base := base) D1 T
  have G2 := ok_isInt (P := l.prog) (w := w) (base := base) D2 T
  have G3 := ok_within (P := l.prog) (w := w) (base := base) D3 T D2
  have G4 := ok_isWord (P := l.prog) (w := w) (base := base) D4 T
  have G5 := ok_wordList (P := l.prog) (w := w) (base := base) D5 T D1 D4
  have G7 := ok_idle (P := l.prog) (w := w) (base := base) D7
  have G8 := ok_isKey (P := l.prog) (w := w) (base := base) D8 T Cn D1
  have G10 := ok_isEffect (P := l.prog) (w := w) (base := base) D10 T Cn D1 D9 D3 D2
  have G11 := ok_toldEffects (P := l.prog) (w := w) (base := base) D11 T D8 G8 D10 G10 D7 G7
  have G12 := ok_toldWorths (P := l.prog) (w := w) (base := base) D12 T D3 G3
  have GB := ok_bInit (P := l.prog) (w := w) (base := base) FB T BC D5 G5 D11 G11 D12 G12
  have G30 := ok_bSorts (P := l.prog) (w := w) (base := base) F30 T BC
  have G31 := ok_bFirst (P := l.prog) (w := w) (base := base) F31 BC
  have G32 := ok_bWorth (P := l.prog) (w := w) (base := base) F32 BC
  have G33 := ok_bEffect (P := l.prog) (w := w) (base := base) F33 BC D8 G8 D7 G7
  have G6 := ok_ageOf (P := l.prog) (w := w) (base := base) D6
  have G13 := ok_checkKey (P := l.prog) (w := w) (base := base) D13 D4 G4
  have G14 := ok_checkLetter (P := l.prog) (w := w) (base := base) D14 D13 G13 D2 G2
  have G34 := ok_vInit (P := l.prog) (w := w) (base := base) F34 DC
  have G37 := ok_vCell (P := l.prog) (w := w) (base := base) F37 DC BC M31 b31 G31
  have G38 := ok_vRight (P := l.prog) (w := w) (base := base) F38 T DC BC M31 b31 G31 M32 b32 G32
  have G36 := ok_vFollow (P := l.prog) (w := w) (base := base) F36 T Cn DC BC M37 b37 G37 M33 b33 G33 D6 G6 M38 b38 G38
  have G35 := ok_vTake (P := l.prog) (w := w) (base := base) F35 DC BC D14 G14 M30 b30 G30 M36 b36 G36
  have G39 := ok_vState (P := l.prog) (w := w) (base := base) F39 DC D13 G13 M37 b37 G37
  have G40 := ok_vHeld (P := l.prog) (w := w) (base := base) F40 DC D13 G13 M37 b37 G37
  have G42 := ok_vBadge (P := l.prog) (w := w) (base := base) F42 DC
  have G43 := ok_vLetters (P := l.prog) (w := w) (base := base) F43 DC
  have G41 := ok_vMet (P := l.prog) (w := w) (base := base) F41 T DC
  have G44 := ok_vUndo (P := l.prog) (w := w) (base := base) F44 DC
  have G45 := ok_vAgain (P := l.prog) (w := w) (base := base) F45 DC M36 b36 G36
  have GCKx := ok_ckx (P := l.prog) (w := w) (base := base) D13 D4 G4 REK
  have GCLx := ok_clx (P := l.prog) (w := w) (base := base) (fK1 := fa) (fdK1 := PySem.W.fnOf "law" "law" (defArgs sLaw) (defBody sLaw) (defScope sLaw) .none kV29 dc29 pm29 an29 (.ref cdL) ct29) D14 D13 G13 GCKx D2 G2 RES REN
  have GTkX := ok_vTakeX (P := l.prog) (w := w) (base := base) F35 DC BC D14 GCLx M30 b30 G30
  have GStX := ok_vStateX (P := l.prog) (w := w) (base := base) F39 D13 GCKx
  have GHdX := ok_vHeldX (P := l.prog) (w := w) (base := base) F40 D13 GCKx
  have G16 := ok_draw (P := l.prog) (w := w) (base := base) F16 T
  have G15 := ok_source (P := l.prog) (w := w) (base := base) F15 T
  have G17 := ok_pick (P := l.prog) (w := w) (base := base) F17 T G16 D16.m D16.F.kp D16.b
  have G18 := ok_same (P := l.prog) (w := w) (base := base) F18 T D18.m D18.b 5
  have G19 := ok_words (P := l.prog) (w := w) (base := base) D19 T D16 G16
  have G20 := ok_effect (P := l.prog) (w := w) (base := base) D20 D16 G16 D17 G17
  have G21 := ok_steps (P := l.prog) (w := w) (base := base) D21 D17 G17
  have G26 := ok_someRow (P := l.prog) (w := w) (base := base) D26 T D16 G16 D17 G17
  have G28 := ok_due (P := l.prog) (w := w) (base := base) D28 T
  have G25 := ok_bookOf (P := l.prog) (w := w) (base := base) D25 BC MB FB GB
  have G22 := ok_wild (P := l.prog) (w := w) (base := base) D22 T D16 G16 D17 G17 D19 G19 D20 G20 D21 G21
  have G23 := ok_near (P := l.prog) (w := w) (base := base) D23 T D16 G16 D17 G17 D20 G20
  have G24 := ok_plan (P := l.prog) (w := w) (base := base) D24 D16 G16 D22 G22 D23 G23
  exact ok_law FL T DC BC MV D15 G15 D24 G24 D25 G25 b34 G34 D26 G26 D17 G17 D28 (G28.imp due2) D27 D18 G18 M35 b35 G35 GTkX M43 b43 G43 M44 b44 G44 M42 b42 G42 M39 b39 G39 GStX M40 b40 G40 GHdX M41 b41 G41 M45 b45 G45 EX REK RES REN TB
end HN


open PySem PySem.W PyProof.Rows in
set_option maxRecDepth 100000 in
set_option maxHeartbeats 0 in
theorem PySem.Challenge.cw_heldnotes_k11_devices_refuse_holds : PySem.Challenge.rw_heldnotes_k11_devices_refuse.Holds := by
  w_on; o_law; k_head; (case hw => w_witness2)
  k_fill
  refine LamX.walk_ofTs (l := PySem.Challenge.rw_heldnotes_k11_devices_refuse) (n := 63) (k := 9) (x := "_law_script") (CX := fun _ => L2.CX0) rfl (by decide) rfl ⟨rfl, by decide, by decide⟩ (fun w h Y => PySem.W.km_in_of Y) ?F (fun _ _ _ _ _ z => z)
  case F =>
    intro w mg fa h Y KX G hmg
    have hT8 := PySem.W.km_tabs_of Y
    refine' HN.all_mk11 KX G hmg ?aCB ?pgB ?hdB ?poB ?saB ?mkB ?kcB ?aCV ?pgV ?hdV ?poV ?saV ?mkV ?kcV ?a1 ?l1 ?c1 ?k1 ?a2 ?l2 ?c2 ?k2 ?a3 ?l3 ?c3 ?k3 ?a4 ?l4 ?c4 ?k4 ?a5 ?l5 ?c5 ?k5 ?a6 ?l6 ?c6 ?k6 ?a7 ?l7 ?c7 ?k7 ?a8 ?l8 ?c8 ?k8 ?a9 ?l9 ?c9 ?k9 ?a10 ?l10 ?c10 ?k10 ?a11 ?l11 ?c11 ?k11 ?a12 ?l12 ?c12 ?k12 ?a13 ?l13 ?c13 ?k13 ?a14 ?l14 ?c14 ?k14 ?a15 ?l15 ?c15 ?k15 ?a16 ?l16 ?c16 ?k16 ?a17 ?l17 ?c17 ?k17 ?a18 ?l18 ?c18 ?k18 ?a19 ?l19 ?c19 ?k19 ?a20 ?l20 ?c20 ?k20 ?a21 ?l21 ?c21 ?k21 ?a22 ?l22 ?c22 ?k22 ?a23 ?l23 ?c23 ?k23 ?a24 ?l24 ?c24 ?k24 ?a25 ?l25 ?c25 ?k25 ?a26 ?l26 ?c26 ?k26 ?a27 ?l27 ?c27 ?k27 ?a28 ?l28 ?c28 ?k28 ?a29 ?l29 ?c29 ?k29 ?lcL ?pt ?hdL ?ptn ?opS ?z_super ?topS ?aEK ?xEK ?rEK ?saEK ?eEK ?tEK ?kEK ?suEK ?alEK ?veEK ?noEK ?iEK ?tiEK ?lEK ?cEK ?qE1K ?qE2K ?qE3K ?qE4K ?gaEK ?ggEK ?hdEK ?aES ?xES ?rES ?saES ?eES ?tES ?kES ?suES ?alES ?veES ?noES ?iES ?tiES ?lES ?cES ?qE1S ?qE2S ?qE3S ?qE4S ?gaES ?ggES ?hdES ?aEN ?xEN ?rEN ?saEN ?eEN ?tEN ?kEN ?suEN ?alEN ?veEN ?noEN ?iEN ?tiEN ?lEN ?cEN ?qE1N ?qE2N ?qE3N ?qE4N ?gaEN ?ggEN ?hdEN ?xKK ?xSK ?xSS ?xNK ?xNS ?xNN ?a30 ?i30 ?l30 ?c30 ?k30 ?a31 ?i31 ?l31 ?c31 ?k31 ?a32 ?i32 ?l32 ?c32 ?k32 ?a33 ?i33 ?l33 ?c33 ?k33 ?a34 ?i34 ?l34 ?c34 ?k34 ?a35 ?i35 ?l35 ?c35 ?k35 ?a36 ?i36 ?l36 ?c36 ?k36 ?a37 ?i37 ?l37 ?c37 ?k37 ?a38 ?i38 ?l38 ?c38 ?k38 ?a39 ?i39 ?l39 ?c39 ?k39 ?a40 ?i40 ?l40 ?c40 ?k40 ?a41 ?i41 ?l41 ?c41 ?k41 ?a42 ?i42 ?l42 ?c42 ?k42 ?a43 ?i43 ?l43 ?c43 ?k43 ?a44 ?i44 ?l44 ?c44 ?k44 ?a45 ?i45 ?l45 ?c45 ?k45 ?a46 ?i46 ?l46 ?c46 ?k46 ?kw ?nB0 ?nB1 ?nB2 ?nB3 ?nB4 ?nB5 ?nV0 ?nV1 ?nV2 ?nV3 ?nV4 ?z_str ?z_dict ?z_set ?z_sorted ?z_range ?z_min ?z_sum ?z_len ?z_int ?z_isinstance ?z_all ?z_zip ?z_list ?z_tuple ?z_bool ?ag ?al ?wh (hT8 _ ?tb)
    (case aCB => k_is)
    (case pgB => k_is)
    (case hdB => k_is)
    (case poB => k_is)
    (case saB => k_is)
    (case mkB => k_is)
    (case kcB => k_is)
    (case aCV => k_is)
    (case pgV => k_is)
    (case hdV => k_is)
    (case poV => k_is)
    (case saV => k_is)
    (case mkV => k_is)
    (case kcV => k_is)
    (case a1 => k_is)
    (case l1 => k_is)
    (case c1 => k_is)
    (case k1 => k_is)
    (case a2 => k_is)
    (case l2 => k_is)
    (case c2 => k_is)
    (case k2 => k_is)
    (case a3 => k_is)
    (case l3 => k_is)
    (case c3 => k_is)
    (case k3 => k_is)
    (case a4 => k_is)
    (case l4 => k_is)
    (case c4 => k_is)
    (case k4 => k_is)
    (case a5 => k_is)
    (case l5 => k_is)
    (case c5 => k_is)
    (case k5 => k_is)
    (case a6 => k_is)
    (case l6 => k_is)
    (case c6 => k_is)
    (case k6 => k_is)
    (case a7 => k_is)
    (case l7 => k_is)
    (case c7 => k_is)
    (case k7 => k_is)
    (case a8 => k_is)
    (case l8 => k_is)
    (case c8 => k_is)
    (case k8 => k_is)
    (case a9 => k_is)
    (case l9 => k_is)
    (case c9 => k_is)
    (case k9 => k_is)
    (case a10 => k_is)
    (case l10 => k_is)
    (case c10 => k_is)
    (case k10 => k_is)
    (case a11 => k_is)
    (case l11 => k_is)
    (case c11 => k_is)
    (case k11 => k_is)
    (case a12 => k_is)
    (case l12 => k_is)
    (case c12 => k_is)
    (case k12 => k_is)
    (case a13 => k_is)
    (case l13 => k_is)
    (case c13 => k_is)
    (case k13 => k_is)
    (case a14 => k_is)
    (case l14 => k_is)
    (case c14 => k_is)
    (case k14 => k_is)
    (case a15 => k_is)
    (case l15 => k_is)
    (case c15 => k_is)
    (case k15 => k_is)
    (case a16 => k_is)
    (case l16 => k_is)
    (case c16 => k_is)
    (case k16 => k_is)
    (case a17 => k_is)
    (case l17 => k_is)
    (case c17 => k_is)
    (case k17 => k_is)
    (case a18 => k_is)
    (case l18 => k_is)
    (case c18 => k_is)
    (case k18 => k_is)
    (case a19 => k_is)
    (case l19 => k_is)
    (case c19 => k_is)
    (case k19 => k_is)
    (case a20 => k_is)
    (case l20 => k_is)
    (case c20 => k_is)
    (case k20 => k_is)
    (case a21 => k_is)
    (case l21 => k_is)
    (case c21 => k_is)
    (case k21 => k_is)
    (case a22 => k_is)
    (case l22 => k_is)
    (case c22 => k_is)
    (case k22 => k_is)
    (case a23 => k_is)
    (case l23 => k_is)
    (case c23 => k_is)
    (case k23 => k_is)
    (case a24 => k_is)
    (case l24 => k_is)
    (case c24 => k_is)
    (case k24 => k_is)
    (case a25 => k_is)
    (case l25 => k_is)
    (case c25 => k_is)
    (case k25 => k_is)
    (case a26 => k_is)
    (case l26 => k_is)
    (case c26 => k_is)
    (case k26 => k_is)
    (case a27 => k_is)
    (case l27 => k_is)
    (case c27 => k_is)
    (case k27 => k_is)
    (case a28 => k_is)
    (case l28 => k_is)
    (case c28 => k_is)
    (case k28 => k_is)
    (case a29 => k_is)
    (case l29 => k_is)
    (case c29 => k_is)
    (case k29 => k_is)
    (case lcL => k_is)
    (case pt => rfl)
    (case hdL => kernel_rfl)
    (case ptn => first | kernel_rfl | k_is)
    (case opS => k_is)
    (case z_super => k_is)
    (case topS => first | rfl | decide +kernel)
    (case aEK => k_is)
    (case xEK => k_is)
    (case rEK => first | rfl | decide +kernel)
    (case saEK => k_is)
    (case eEK => k_is)
    (case tEK => k_is)
    (case kEK => k_is)
    (case suEK => k_is)
    (case alEK => ks_is)
    (case veEK => k_is)
    (case noEK => k_is)
    (case iEK => k_is)
    (case tiEK => k_is)
    (case lEK => k_is)
    (case cEK => k_is)
    (case qE1K => k_is)
    (case qE2K => k_is)
    (case qE3K => rfl)
    (case qE4K => first | rfl | decide +kernel)
    (case gaEK => k_is)
    (case ggEK => k_is)
    (case hdEK => k_is)
    (case aES => k_is)
    (case xES => k_is)
    (case rES => first | rfl | decide +kernel)
    (case saES => k_is)
    (case eES => k_is)
    (case tES => k_is)
    (case kES => k_is)
    (case suES => k_is)
    (case alES => ks_is)
    (case veES => k_is)
    (case noES => k_is)
    (case iES => k_is)
    (case tiES => k_is)
    (case lES => k_is)
    (case cES => k_is)
    (case qE1S => k_is)
    (case qE2S => k_is)
    (case qE3S => rfl)
    (case qE4S => first | rfl | decide +kernel)
    (case gaES => k_is)
    (case ggES => k_is)
    (case hdES => k_is)
    (case aEN => k_is)
    (case xEN => k_is)
    (case rEN => first | rfl | decide +kernel)
    (case saEN => k_is)
    (case eEN => k_is)
    (case tEN => k_is)
    (case kEN => k_is)
    (case suEN => k_is)
    (case alEN => ks_is)
    (case veEN => k_is)
    (case noEN => k_is)
    (case iEN => k_is)
    (case tiEN => k_is)
    (case lEN => k_is)
    (case cEN => k_is)
    (case qE1N => k_is)
    (case qE2N => k_is)
    (case qE3N => rfl)
    (case qE4N => first | rfl | decide +kernel)
    (case gaEN => k_is)
    (case ggEN => k_is)
    (case hdEN => k_is)
    (case xKK => kts_exm)
    (case xSK => kts_exm)
    (case xSS => kts_exm)
    (case xNK => kts_exm)
    (case xNS => kts_exm)
    (case xNN => kts_exm)
    (case a30 => k_is)
    (case i30 => k_is)
    (case l30 => k_is)
    (case c30 => k_is)
    (case k30 => k_is)
    (case a31 => k_is)
    (case i31 => k_is)
    (case l31 => k_is)
    (case c31 => k_is)
    (case k31 => k_is)
    (case a32 => k_is)
    (case i32 => k_is)
    (case l32 => k_is)
    (case c32 => k_is)
    (case k32 => k_is)
    (case a33 => k_is)
    (case i33 => k_is)
    (case l33 => k_is)
    (case c33 => k_is)
    (case k33 => k_is)
    (case a34 => k_is)
    (case i34 => k_is)
    (case l34 => k_is)
    (case c34 => k_is)
    (case k34 => k_is)
    (case a35 => k_is)
    (case i35 => k_is)
    (case l35 => k_is)
    (case c35 => k_is)
    (case k35 => k_is)
    (case a36 => k_is)
    (case i36 => k_is)
    (case l36 => k_is)
    (case c36 => k_is)
    (case k36 => k_is)
    (case a37 => k_is)
    (case i37 => k_is)
    (case l37 => k_is)
    (case c37 => k_is)
    (case k37 => k_is)
    (case a38 => k_is)
    (case i38 => k_is)
    (case l38 => k_is)
    (case c38 => k_is)
    (case k38 => k_is)
    (case a39 => k_is)
    (case i39 => k_is)
    (case l39 => k_is)
    (case c39 => k_is)
    (case k39 => k_is)
    (case a40 => k_is)
    (case i40 => k_is)
    (case l40 => k_is)
    (case c40 => k_is)
    (case k40 => k_is)
    (case a41 => k_is)
    (case i41 => k_is)
    (case l41 => k_is)
    (case c41 => k_is)
    (case k41 => k_is)
    (case a42 => k_is)
    (case i42 => k_is)
    (case l42 => k_is)
    (case c42 => k_is)
    (case k42 => k_is)
    (case a43 => k_is)
    (case i43 => k_is)
    (case l43 => k_is)
    (case c43 => k_is)
    (case k43 => k_is)
    (case a44 => k_is)
    (case i44 => k_is)
    (case l44 => k_is)
    (case c44 => k_is)
    (case k44 => k_is)
    (case a45 => k_is)
    (case i45 => k_is)
    (case l45 => k_is)
    (case c45 => k_is)
    (case k45 => k_is)
    (case a46 => k_is)
    (case i46 => k_is)
    (case l46 => k_is)
    (case c46 => k_is)
    (case k46 => k_is)
    (case kw => k_is)
    (case nB0 => k_is)
    (case nB1 => k_is)
    (case nB2 => k_is)
    (case nB3 => k_is)
    (case nB4 => k_is)
    (case nB5 => k_is)
    (case nV0 => k_is)
    (case nV1 => k_is)
    (case nV2 => k_is)
    (case nV3 => k_is)
    (case nV4 => k_is)
    (case z_str => k_is)
    (case z_dict => k_is)
    (case z_set => k_is)
    (case z_sorted => k_is)
    (case z_range => k_is)
    (case z_min => k_is)
    (case z_sum => k_is)
    (case z_len => k_is)
    (case z_int => k_is)
    (case z_isinstance => k_is)
    (case z_all => k_is)
    (case z_zip => k_is)
    (case z_list => k_is)
    (case z_tuple => k_is)
    (case z_bool => k_is)
    (case ag => k_is)
    (case al => k_is)
    (case wh => k_is)
    (case tb => k_mem)

