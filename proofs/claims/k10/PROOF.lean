import PyProof.Rows.All
import Wide.All
import OpenK.AllK
import Wide.FinOn
import HandS.ForMost
import HandS.Set
import HandS.Strs
import HandS.SetBool
import HandS.Walk
import KE.GoesMore
import KE.GoesZip
import HandS.Codes
import HandS.Evl
import HandS.Flow
import HandS.Star
import HandS.Defaults
import HandS.MakeKwOnly
import HandS.IsInst
import HandS.ClsMeth
import HandS.TupAny
import KE.GoesEnum
import HandS.Words
import KE.KUnpackStar
import HandS.Base
import HandS.Call
import HandS.Style
import HandS.ExcOwn
import HandS.ExcValue
import HandS.More
import HandS.WrittenGet
import PyProof.DictStraight
import HandS.Deep
import HandS.Property
import HandS.TupSets
import HandS.Conv
import PySem.Challenge.RW_stillmeant_k10_deeds_judged
set_option Elab.async false
set_option linter.all false
set_option maxRecDepth 100000
set_option maxHeartbeats 4000000
/-! A set comprehension whose items are ints (the layer's own has truth values): the member is put in by the rule of set.add. -/
namespace WSet
open PySem PySem.Spec PyProof.Rows L2
section
variable {X : Cx}
abbrev S0 (w : World) (D : Addr) : HO := SetO w D (fun _ => false) 0
/-- {elt for target in iter if ..}, elt an int: D the new set -/
def tSi (w : World) (wi : TI) (g : TG) (tt : TT) (te : TE) (vs : List Nat) : TE := fun σ H Q => wi σ H fun J H1 => ∀ D, H1 D = none →
  ∃ W : Nat → Nat → Hp → Prop, (∃ m, W 0 m (upd H1 D (S0 w D))) ∧
    ∀ i m H, W i m H → (J.stop i H ∧ Q (.ref D) H) ∨
      (J.go i H ∧ ∃ Nx : Hp → Prop, (∀ H', Nx H' → ∃ m', m' < m ∧ W (i + 1) m' H') ∧
        ∀ x H', J.yld i H x H' → g x (wipe σ vs) H' fun σ2 H2 => wipe σ2 vs = wipe σ vs ∧
          tt σ2 H2 fun b H3 => if b = true then (te σ2 H3 fun y H4 => rSAdd w (.ref D) [y] H4 fun _ H5 => Nx H5) else Nx H3)
/-- the facts of a block's context, said once -/
structure BlkRun (X : Cx) (scope : Scope) (own : List (Str × Nat)) (tg elt : Expr) (ifs : List Expr) (g : TG) (tt : TT) (te : TE) : Prop where
  calm : X.calm = true
  nodup : X.N.Nodup
  blk : BlkOk X.N X.env.scope scope own
  pg : ∀ (s : Shared) (H : Hp) (C : Addr) (cl : List (Str × Addr)) (fp : List Addr), PG (X.blk s H scope (compEnvC scope cl C X.env) fp) tg g
  pt : ∀ (s : Shared) (H : Hp) (C : Addr) (cl : List (Str × Addr)) (fp : List Addr), PTs (X.blk s H scope (compEnvC scope cl C X.env) fp) ifs tt
  pe : ∀ (s : Shared) (H : Hp) (C : Addr) (cl : List (Str × Addr)) (fp : List Addr), PE (X.blk s H scope (compEnvC scope cl C X.env) fp) elt te
/-- the loop of the block, from the empty set to the def's context again -/
theorem si_loop {elt tg iter : Expr} {ifs : List Expr} {scope : Scope} {own : List (Str × Nat)} {pos : Pos} {g : TG} {tt : TT} {te : TE} {pins : List (Addr × Obj)} {σ : L2.St} {Q : VK} {H3 : Hp} {s3 : Shared} {D it : Addr} {fp : List Addr} {tn : Nat → Heap → Prop} {J : It} {W : Nat → Nat → Hp → Prop} {m0 : Nat}
    (B : BlkRun X scope own tg elt ifs g tt te) (I3 : Inv X pins σ H3 s3) (T : Turn X.prog X.w X.K tg J fp it tn) (st3 : tn 0 s3.heap) (f3 : ∀ b ∈ fp, FpOk X pins H3 b ∧ b < s3.heap.objs.size) (w0 : W 0 m0 H3)
    (turn : ∀ i m H, W i m H → (J.stop i H ∧ Q (.ref D) H) ∨ (J.go i H ∧ ∃ Nx : Hp → Prop, (∀ H', Nx H' → ∃ m', m' < m ∧ W (i + 1) m' H') ∧
      ∀ x H', J.yld i H x H' → g x (wipe σ (own.map (·.2))) H' fun σ2 H2 => wipe σ2 (own.map (·.2)) = wipe σ (own.map (·.2)) ∧ tt σ2 H2 fun b H3 => if b = true then (te σ2 H3 fun y H4 => rSAdd X.w (.ref D) [y] H4 fun _ H5 => Nx H5) else Nx H3)) :
    codeAny (model X.prog X.w) X.A (.compStart (.SetComp elt [⟨tg, iter, ifs, 0⟩] scope pos) 0 (.ref it) (.ref D) (compEnvC scope (cellsFrom (s3.heap.objs.size + 1) scope.names (cloFrom X.env.cells scope.names [])) s3.heap.objs.size X.env))
      (compPost (model X.prog X.w) X.A X.xe none (EP X pins σ Q) (.ref D) s3.heap.objs.size) { s3 with heap := pushCells (s3.heap.push { cls := .type "dict", data := .dict #[] }) scope.names } := by
  have free3 : ∀ b ∈ fp, H3 b = none := fun b hb => (f3 b hb).1.1
  have I4 := block_start I3 B.blk B.nodup f3
  have G1 := B.pg s3 H3 s3.heap.objs.size (cellsFrom (s3.heap.objs.size + 1) scope.names (cloFrom X.env.cells scope.names [])) fp
  have G2 := B.pt s3 H3 s3.heap.objs.size (cellsFrom (s3.heap.objs.size + 1) scope.names (cloFrom X.env.cells scope.names [])) fp
  have G3 := B.pe s3 H3 s3.heap.objs.size (cellsFrom (s3.heap.objs.size + 1) scope.names (cloFrom X.env.cells scope.names [])) fp
  generalize ec : compEnvC scope (cellsFrom (s3.heap.objs.size + 1) scope.names (cloFrom X.env.cells scope.names [])) s3.heap.objs.size X.env = cv at I4 G1 G2 G3 ⊢
  have loc : cv.locals = s3.heap.objs.size := by rw [← ec]; rfl
  have st4 : tn 0 (pushCells (s3.heap.push { cls := .type "dict", data := .dict #[] }) scope.names) := T.keep _ _ _ st3 fun b _ u e => pushCells_keeps _ _ _ _ (Heap.get?_push_of_some _ e)
  generalize es : ({ s3 with heap := pushCells (s3.heap.push { cls := .type "dict", data := .dict #[] }) scope.names } : Shared) = s4 at I4 ⊢
  have st5 : tn 0 s4.heap := by rw [← es]; exact st4
  -- the iterator's cells within the block
  have within : ∀ {σ' : L2.St} {H' : Hp} {s' : Shared}, Inv (X.blk s3 H3 scope cv fp) [] σ' H' s' → (∀ b ∈ fp, H' b = none) → ∀ b ∈ fp, FpOk (X.blk s3 H3 scope cv fp) [] H' b := fun I' hn b hb => by
    have a := I'.ok.exf b hb
    refine ⟨hn b hb, a.1, I'.ok.exfs b hb, .inl hb, fun x c e => a.2 x c e, fun p hp => ?_⟩
    have hp' : p ∈ ([] : List (Addr × Obj)) ++ [] := hp
    simp at hp'
  let Gi : Nat → Shared → Prop := fun n s' => ∃ i H', Inv (X.blk s3 H3 scope cv fp) [] (wipe σ (own.map (·.2))) H' s' ∧ tn i s'.heap ∧ (∀ b ∈ fp, H' b = none) ∧ W i n H'
  have loop : codeAny (model X.prog X.w) X.A (.compLoop (.SetComp elt [⟨tg, iter, ifs, 0⟩] scope pos) 0 (.ref it) (.ref D) cv) (compPost (model X.prog X.w) X.A X.xe none (EP X pins σ Q) (.ref D) s3.heap.objs.size) s4 := by
    refine PpSet.compLoopS_any Gi (fun n s5 hG => ?_) m0 ⟨0, H3, I4, st5, free3, w0⟩
    obtain ⟨i, H5, I5, t5, n5, w5⟩ := hG
    rcases turn i n H5 w5 with ⟨over, won⟩ | ⟨more, Nx, low, step⟩
    · refine thnF (T.done (X.blk s3 H3 scope cv fp) rfl rfl rfl B.calm i [] s5 _ H5 (fun _ _ => False) I5 (within I5 n5) t5 over) fun r s6 ⟨er, I6⟩ => ?_
      subst er
      have back : Inv X pins σ H5 s6 := I3.call' (ch := fp) I6.os I6.base I6.hok I6.bare fun b hb => by
        obtain ⟨_, p1, p2, p3, p4, p5⟩ := (f3 b hb).1
        exact ⟨p3, p1, p4, p5⟩
      obtain ⟨mm, hns, _⟩ := I6.loc
      have ns : s6.heap.Ns cv.locals mm := hns
      have fr : H5 cv.locals = none := I6.free
      rw [loc] at ns fr
      refine ⟨mm, ns, fun h9 sb => ?_⟩
      obtain ⟨c0, c1, c2, c3, c4, c5⟩ := I3.fpOk (H' := H5) (Nat.le_refl _) fr
      exact ⟨.ref D, H5, back.turned (t' := s6.toks) (fun b u hb e => (sb.2 b hb).trans e) c0 c1 c3 c4 c5, rfl, won⟩
    · refine thnF (T.item (X.blk s3 H3 scope cv fp) rfl rfl rfl B.calm i [] s5 _ H5 (fun _ _ => False) I5 (within I5 n5) t5 more) fun r s6 ⟨u, er, h6⟩ => ?_
      subst er
      refine thnF h6 fun _ s7 ⟨x, H7, I7, r7, y7, t7, n7⟩ => ?_
      have pinned := I7.pinned (within I7 n7) (T.obj _ _ t7)
      refine thnF (G1.run _ s7 _ H7 x u _ pinned r7 (step x H7 y7)) fun _ s8 ⟨σ8, H8, I8, same8, q8⟩ => ?_
      refine thnF (G2.run _ s8 σ8 H8 _ I8 q8) fun b s9 ⟨H9, I9, q9⟩ => ?_
      have next : ∀ {s' : Shared} {H' : Hp}, Inv (X.blk s3 H3 scope cv fp) ([] ++ pinsAt fp s7.heap) σ8 H' s' → Nx H' → ∃ k, k < n ∧ Gi k s' := fun {s' H'} I' nx => by
        obtain ⟨k, lt, w'⟩ := low H' nx
        have held : ∀ b ∈ fp, ∀ o, s7.heap.get? b = some o → s'.heap.get? b = some o ∧ H' b = none := fun b hb o e => by
          have z := I'.pin (b, o) (List.mem_append_right _ (List.mem_append_right _ (mem_pinsAt hb e)))
          exact ⟨z.1, z.2.1⟩
        have ll : (wipe σ (own.map (·.2))).length = σ8.length := by rw [← same8, wipe_length]
        refine ⟨k, lt, i + 1, H', (I'.unpinned (pins := [])).weak ll (fun j v e => ?_), T.keep _ _ _ t7 fun b hb o e => (held b hb o e).1, fun b hb => ?_, w'⟩
        · rw [← same8] at e
          exact (wipe_some e).1
        · obtain ⟨o, e, _⟩ := T.obj _ _ t7 b hb
          exact (held b hb o e).2
      cases b with
      | false =>
        rw [if_neg Bool.false_ne_true] at q9 ⊢
        exact next I9 q9
      | true =>
        rw [if_pos rfl] at q9 ⊢
        refine thnF (G3.run _ s9 σ8 H9 _ I9 q9) fun z s10 ⟨yv, H10, I10, r10, ad⟩ => ?_
        have put := mt_sadd (X := X.blk s3 H3 scope cv fp) _ s10 σ8 H10 (.ref D) [yv] (.ref D) [z] _ I10 rfl (.cons r10 .nil) ad
        exact thnF put fun _ s11 ⟨_, H11, I11, _, nx⟩ => next I11 nx
  exact PpSet.codeAny_compStart_set loop (T.self X.A 0 _ _ _ st5 loop)
theorem pe_si {elt tg iter : Expr} {ifs : List Expr} {scope : Scope} {own : List (Str × Nat)} {pos : Pos} {wi : TI} {g : TG} {tt : TT} {te : TE} (hi : PI X tg iter wi) (B : BlkRun X scope own tg elt ifs g tt te)
    (folded : ∀ x, foldedSetIterable iter X.env x = pure x := by intro _; rfl) : PE X (.SetComp elt [⟨tg, iter, ifs, 0⟩] scope pos) (tSi X.w wi g tt te (own.map (·.2))) := by
  refine ⟨fun pins s σ H Q I h => ?_⟩
  rw [PpSet.eval_SetComp]
  have fr : ∀ y ∈ scope.names, y.2 = .free → ∃ c, X.env.cells.lookup y.1 = some c := fun y hy e => I.ok.has _ (B.blk.free y hy e)
  refine wpAny_comprehension_free rfl folded (closure_ok fr) B.blk.kind (fun y hy e => (B.blk.uniq y hy).trans (by rw [e])) ?_
  refine thn (hi.run pins s σ H _ I h) fun xv s1 hx => thn hx fun itv s2 found => ?_
  obtain ⟨it, fp, tn, J, H2, rfl, I2, T, st2, f2, q⟩ := found
  refine PpSet.newSet_ok (newEnv_comp ?_)
  have hn : H2 s2.heap.objs.size = none := I2.hok.fresh (Nat.le_refl _)
  obtain ⟨W, ⟨m0, w0⟩, turn⟩ := q s2.heap.objs.size hn
  have kp : ∀ b u, s2.heap.get? b = some u → (s2.heap.push { cls := .type "set", dict := none, data := .set #[] 0 (.fresh 0 0 (!X.w.params.followText "set-order")) }).get? b = some u := fun b u e => Heap.get?_push_of_some _ e
  have new : Inv X pins σ (upd H2 s2.heap.objs.size (S0 X.w s2.heap.objs.size)) { s2 with heap := s2.heap.push { cls := .type "set", dict := none, data := .set #[] 0 (.fresh 0 0 (!X.w.params.followText "set-order")) } } :=
    I2.laid (t' := s2.toks) kp (Nat.le_refl _) (setO_new (setR_fresh X.w))
  have cells : ∀ b ∈ fp, FpOk X pins (upd H2 s2.heap.objs.size (S0 X.w s2.heap.objs.size)) b ∧ b < (s2.heap.push { cls := .type "set", dict := none, data := .set #[] 0 (.fresh 0 0 (!X.w.params.followText "set-order")) }).objs.size := fun b hb => by
    obtain ⟨u, e, _⟩ := T.obj _ _ st2 b hb
    have lt := Heap.lt_size e
    obtain ⟨c0, rest⟩ := f2 b hb
    exact ⟨⟨by rw [upd_ne (Nat.ne_of_lt lt)]; exact c0, rest⟩, by rw [Heap.size_push]; exact Nat.lt_succ_of_lt lt⟩
  exact si_loop B new T (T.keep _ _ _ st2 fun b _ u e => kp b u e) cells w0 turn
end
end WSet

/-! for x, y in zip(a tuple, a list), both of one length. -/
namespace WZip
open PySem PySem.Spec PyProof.Rows L2
def Izm (K : PySem.W.Frag) (a b : Addr) : It :=
  ⟨fun i H => ∃ (xs ys : List V) (x y : V), SqT K H a xs ∧ SqL K H b ys ∧ xs[i]? = some x ∧ ys[i]? = some y,
   fun i H v H' => ∃ T x y, v = .ref T ∧ H T = none ∧ H' = upd H T (.tup [x, y]) ∧ (∀ xs, SqT K H a xs → xs[i]? = some x) ∧ (∀ ys, SqL K H b ys → ys[i]? = some y),
   fun i H => ∃ xs ys : List V, SqT K H a xs ∧ SqL K H b ys ∧ xs.length = i ∧ ys.length = i⟩
def mark (z TI TO i1 i2 : Addr) (a b : Addr) (i : Nat) (h : Heap) : Prop := IsZip h z TI TO .none ∧ IsTupOf2 h TI (.ref i1) (.ref i2) ∧ (∃ u v, IsTupOf2 h TO u v) ∧ h.IsTupleIter i1 a i ∧ h.IsListIter i2 b i
theorem turn_zm {P : Program} {w : World} {K : PySem.W.Frag} {elts : List Expr} {kk : Nat} {tpos : Pos} {a b z TI TO i1 i2 : Addr} (S : ZipSep2 z TI TO i1 i2 [i1, a] [i2, b]) :
    Turn P w K (.Tuple elts kk tpos) (Izm K a b) [z, TI, TO, i1, i2] z (mark z TI TO i1 i2 a b) where
  mem := by simp
  obj := fun i h st c hc => by
    obtain ⟨gz, gI, ⟨u, v, gO⟩, ⟨o1, e1, _, d1⟩, ⟨o2, e2, _, d2⟩⟩ := st
    have five : c = z ∨ c = TI ∨ c = TO ∨ c = i1 ∨ c = i2 := by simpa using hc
    rcases five with q | q | q | q | q <;> subst q
    · exact ⟨_, gz, fun v q => nomatch q⟩
    · exact ⟨_, gI, fun v q => nomatch q⟩
    · exact ⟨_, gO, fun v q => nomatch q⟩
    · exact ⟨o1, e1, fun v q => by rw [d1] at q; cases q⟩
    · exact ⟨o2, e2, fun v q => by rw [d2] at q; cases q⟩
  keep := fun i h h' st k => by
    obtain ⟨gz, gI, ⟨u, v, gO⟩, t1, t2⟩ := st
    exact ⟨k z (by simp) _ gz, k TI (by simp) _ gI, ⟨u, v, k TO (by simp) _ gO⟩, t1.at fun o q => k i1 (by simp) o q, t2.at fun o q => k i2 (by simp) o q⟩
  item := by
    intro X eP eW eK hc i pins s σ H E I hf st hg
    subst eP eW eK
    obtain ⟨gz, gI, ⟨u0, v0, gO⟩, t1, t2⟩ := st
    obtain ⟨xs, ys, x, y, qx, qy, hx, hy⟩ := hg
    obtain ⟨its, rx, tp, _⟩ := I.tuple qx
    obtain ⟨jts, ry, lp, _⟩ := I.list qy
    obtain ⟨ux, gx, rux⟩ := rx.get hx
    obtain ⟨uy, gy, ruy⟩ := ry.get hy
    have lx : i < its.length := (List.getElem?_eq_some_iff.mp gx).1
    have ly : i < jts.length := (List.getElem?_eq_some_iff.mp gy).1
    have zl : z < s.heap.objs.size := Heap.lt_size gz
    have a1 : a ≠ i1 := fun q => by
      obtain ⟨o, e, c, n, d⟩ := (show s.heap.IsTuple a its.toArray from tp)
      obtain ⟨o2, e2, c2, d2⟩ := t1
      rw [q, e2] at e
      cases e
      have c3 : Value.type "tuple_iterator" = Value.type "tuple" := c2.symm.trans c
      exact absurd c3 (by decide)
    have b2 : b ≠ i2 := fun q => by
      obtain ⟨o, e, c, n, d⟩ := lp.isList
      obtain ⟨o2, e2, c2, d2⟩ := t2
      rw [q, e2] at e
      cases e
      have c3 : Value.type "list_iterator" = Value.type "list" := c2.symm.trans c
      exact absurd c3 (by decide)
    refine wpAny_pyNext_zipD2_item S (Draws.tuple (A := X.A.in1) (I.ok.hd hc) i1 a a1 its.toArray) (Draws.list (A := X.A.in1) (I.ok.hd hc) i2 b b2 jts.toArray) gz gI gO ⟨t1, tp⟩ ⟨t2, lp.isList⟩ (by simpa using lx) (by simpa using ly)
      fun x1 x2 h1 tk p1 p2 z1 O1 s1 s2 T1 sz hk => ?_
    have ex : x1 = ux := by
      have q : its[i]? = some x1 := by simpa using p1
      rw [gx] at q
      exact (Option.some.inj q).symm
    have ey : x2 = uy := by
      have q : jts[i]? = some x2 := by simpa using p2
      rw [gy] at q
      exact (Option.some.inj q).symm
    subst ex ey
    refine ⟨_, rfl, wpAny_letOwnedTupleGo_zip (s := { s with heap := h1, toks := tk }) z1 fun h2 z2 sb => ?_⟩
    have T2 : h2.get? s.heap.objs.size = some { cls := .type "tuple", data := .seq #[x1, x2] } := (sb.2 _ (Nat.ne_of_gt zl)).trans T1
    have new : ObjOk X.prog X.w (upd H s.heap.objs.size (.tup [x, y])) h2 s.heap.objs.size (.tup [x, y]) :=
      ⟨by show 2 ≤ sizeLine; decide, [x1, x2], .cons rux (.cons ruy .nil), ⟨_, T2, rfl, _, rfl⟩⟩
    have out : ∀ {c : Addr}, c ∉ [z, TI, TO, i1, i2] → c ≠ z ∧ c ≠ TO ∧ c ≠ i1 ∧ c ≠ i2 := fun {c} hn => by
      simp only [List.mem_cons, List.not_mem_nil, or_false, not_or] at hn
      exact ⟨hn.1, hn.2.2.1, hn.2.2.2.1, hn.2.2.2.2⟩
    have I1 : Inv X pins σ (upd H s.heap.objs.size (.tup [x, y])) { s with heap := h2, toks := tk } := by
      refine I.turnedNew (ch := [z, TI, TO, i1, i2]) (fun c u hn q => ?_) hf (Nat.le_refl _) new
      obtain ⟨n1, n2, n3, n4⟩ := out hn
      exact (sb.2 c n1).trans (hk c u n1 n2 n3 n4 q)
    refine ⟨.ref s.heap.objs.size, _, I1, rfl, ⟨_, x, y, rfl, I.hok.fresh (Nat.le_refl _), rfl, fun l hl => by rw [I.tuple_inj hl qx]; exact hx, fun l hl => by rw [I.list_inj hl qy]; exact hy⟩, ⟨z2, ?_, ⟨x1, x2, ?_⟩, ?_, ?_⟩, fun c hcm => ?_⟩
    · exact (sb.2 _ S.TIz).trans (hk _ _ S.TIz S.TITO S.TIi1 S.TIi2 gI)
    · exact (sb.2 _ S.TOz).trans O1
    · exact s1.1.at fun o q => (sb.2 _ S.zi1.symm).trans q
    · exact s2.1.at fun o q => (sb.2 _ S.zi2.symm).trans q
    · have lt : c < s.heap.objs.size := by
        have five : c = z ∨ c = TI ∨ c = TO ∨ c = i1 ∨ c = i2 := by simpa using hcm
        rcases five with q | q | q | q | q
        · rw [q]; exact zl
        · rw [q]; exact Heap.lt_size gI
        · rw [q]; exact Heap.lt_size gO
        · rw [q]; obtain ⟨_, e, _⟩ := t1; exact Heap.lt_size e
        · rw [q]; obtain ⟨_, e, _⟩ := t2; exact Heap.lt_size e
      rw [upd_ne (Nat.ne_of_lt lt)]
      exact (hf c hcm).1
  done := by
    intro X eP eW eK hc i pins s σ H E I hf st hg
    subst eP eW eK
    obtain ⟨gz, gI, ⟨u0, v0, gO⟩, t1, t2⟩ := st
    obtain ⟨xs, ys, qx, qy, e1, e2⟩ := hg
    obtain ⟨its, rx, tp, _⟩ := I.tuple qx
    obtain ⟨jts, ry, lp, _⟩ := I.list qy
    have l1 := rx.length
    have l2 := ry.length
    have a1 : a ≠ i1 := fun q => by
      obtain ⟨o, e, c, n, d⟩ := (show s.heap.IsTuple a its.toArray from tp)
      obtain ⟨o2, e2, c2, d2⟩ := t1
      rw [q, e2] at e
      cases e
      have c3 : Value.type "tuple_iterator" = Value.type "tuple" := c2.symm.trans c
      exact absurd c3 (by decide)
    have b2 : b ≠ i2 := fun q => by
      obtain ⟨o, e, c, n, d⟩ := lp.isList
      obtain ⟨o2, e2, c2, d2⟩ := t2
      rw [q, e2] at e
      cases e
      have c3 : Value.type "list_iterator" = Value.type "list" := c2.symm.trans c
      exact absurd c3 (by decide)
    refine wpAny_pyNext_zipD2_end S (Draws.tuple (A := X.A.in1) (I.ok.hd hc) i1 a a1 its.toArray) (Draws.list (A := X.A.in1) (I.ok.hd hc) i2 b b2 jts.toArray) gz gI gO ⟨t1, tp⟩ ⟨t2, lp.isList⟩ (by simp; omega) (by simp; omega) (.inl (by simp; omega)) fun h1 tk hk => ⟨rfl, ?_⟩
    refine I.turnedL (ch := [z, TI, TO, i1, i2]) (fun c u hn q => ?_) hf
    simp only [List.mem_cons, List.not_mem_nil, or_false, not_or] at hn
    exact hk c u hn.1 hn.2.2.1 hn.2.2.2.1 hn.2.2.2.2 q
  self := fun A i s Q E st h => wpAny_pyIter_zip st.1 h
theorem sep_nat (n a b : Nat) (ha : a < n) (hb : b < n) : ZipSep2 (n + 4) (n + 2) (n + 3) n (n + 1) [n, a] [n + 1, b] := by
  constructor <;> simp <;> try omega
  case zf1 => exact fun e => absurd (show (n + 4 : Nat) = a from e) (by omega)
  case Tf1 => exact fun e => absurd (show (n + 3 : Nat) = a from e) (by omega)
  case zf2 => exact fun e => absurd (show (n + 4 : Nat) = b from e) (by omega)
  case Tf2 => exact fun e => absurd (show (n + 3 : Nat) = b from e) (by omega)
  case sep1_2 => exact fun e => absurd (show (n : Nat) = b from e) (by omega)
  case sep2_1 => exact fun e => absurd (show (n + 1 : Nat) = a from e) (by omega)
def tZm (K : PySem.W.Frag) (ta : TA) : TI := fun σ H R => ta σ H fun vs H1 => ∃ a b xs ys, vs = [.ref a, .ref b] ∧ SqT K H1 a xs ∧ SqL K H1 b ys ∧ R (Izm K a b) H1
theorem pi_zm {X : Cx} {e e2 : Expr} {ta : TA} {p pos tpos : Pos} {elts : List Expr} {kk : Nat} (hg : Gl X "zip") (hm : X.mg "zip" = none) (ha : PA X [e, e2] ta)
    (hs : starEach [e, e2] X.env = (false, eval e X.env) :: starEach [e2] X.env := by rfl) (hpl : (backTo pos (starEach [e2] X.env)).any (·.1) = false := by rfl) :
    PI X (.Tuple elts kk tpos) (.Call (.Name "zip" p) [e, e2] [] pos) (tZm X.K ta) := by
  refine ⟨fun pins s σ H R I h => ?_⟩
  refine Call_ (ld_blt I hg hm PyProof.Rows.boot_zip (PyProof.Rows.callWith_type1 (thn (ha.run pos pins s σ H _ I h) fun us s1 ⟨vs, H1, I1, r1, q1⟩ => ?_) hs hpl))
  obtain ⟨a, b, xs, ys, rfl, qx, qy, q⟩ := q1
  obtain ⟨u1, u2, rfl, ru1, ru2⟩ := vals2 r1
  cases ru1
  cases ru2
  obtain ⟨its, rx, tp, _⟩ := I1.tuple qx
  obtain ⟨jts, ry, lp, _⟩ := I1.list qy
  have la : a < s1.heap.objs.size := by
    obtain ⟨o, e, _⟩ := (show s1.heap.IsTuple a its.toArray from tp)
    exact Heap.lt_size e
  have lb : b < s1.heap.objs.size := by
    obtain ⟨o, e, _⟩ := lp.isList
    exact Heap.lt_size e
  refine zip_begins2 (begins_tuple a its.toArray) (begins_list b jts.toArray) tp lp.isList fun h1 gz gI gO g1 g2 sz kp => wpAny_pyIter_zip gz ?_
  have S := sep_nat s1.heap.objs.size a b la lb
  have I2 : Inv X pins σ H1 { s1 with heap := h1 } := I1.kept (t' := s1.toks) kp
  refine ⟨s1.heap.objs.size + 4, [s1.heap.objs.size + 4, s1.heap.objs.size + 2, s1.heap.objs.size + 3, s1.heap.objs.size, s1.heap.objs.size + 1], _, _, H1, rfl, I2, turn_zm S, ⟨gz, gI, ⟨_, _, gO⟩, ⟨_, g1, rfl, rfl⟩, ⟨_, g2, rfl, rfl⟩⟩, fun c hc => ?_, q⟩
  have ge : s1.heap.objs.size ≤ c := by
    have five : c = s1.heap.objs.size + 4 ∨ c = s1.heap.objs.size + 2 ∨ c = s1.heap.objs.size + 3 ∨ c = s1.heap.objs.size ∨ c = s1.heap.objs.size + 1 := by simpa using hc
    rcases five with q | q | q | q | q
    · rw [q]; exact Nat.le_add_right _ _
    · rw [q]; exact Nat.le_add_right _ _
    · rw [q]; exact Nat.le_add_right _ _
    · rw [q]; exact Nat.le_refl _
    · rw [q]; exact Nat.le_add_right _ _
  exact I1.fpOk ge (I1.hok.fresh ge)
theorem walk_zm {K : PySem.W.Frag} {a b : Addr} {xs ys : List V} (hl : xs.length = ys.length) : Walk (Izm K a b) xs.length (fun H => SqT K H a xs ∧ SqL K H b ys) (YPair (fun i => xs[i]?) (fun i => ys[i]?)) := by
  refine ⟨fun i _ hi q => ?_, fun _ q => ⟨xs, ys, q.1, q.2, rfl, hl.symm⟩, fun i H v H' _ q y => ?_⟩
  · have h2 : i < ys.length := by omega
    exact ⟨xs, ys, xs[i], ys[i], q.1, q.2, by simp [hi], by simp [h2]⟩
  · obtain ⟨T, x, z, y1, y2, y3, y4, y5⟩ := y
    exact ⟨T, x, z, y1, y2, y3, y4 xs q.1, y5 ys q.2⟩
end WZip

namespace KT
open PySem PySem.Spec PyProof.Rows L2
/-! ### the text -/
def top (i : Nat) : Stmt := PySem.Challenge.pw_stillmeant_k10_deeds_judged.main.body.getD i (.Pass ⟨0, 0, 0, 0⟩)
abbrev sOpened : Stmt := top 25
abbrev sPull : Stmt := top 26
abbrev sAny : Stmt := top 27
abbrev sNames : Stmt := top 29
abbrev sWord : Stmt := top 30
abbrev sTable : Stmt := top 31
abbrev sGround : Stmt := top 32
abbrev sShape : Stmt := top 33
abbrev sLaw : Stmt := top 35
theorem scOpened : FnScope ["_law_script"] ["_law_script"] (defScope sOpened) := ⟨rfl, rfl, rfl, by decide +kernel, rfl, by decide +kernel, by decide +kernel⟩
theorem scPull : FnScope ["_law_bag", "_law_many", "_law_cell", "_law_digit", "_law_seed"] ["_law_bag", "_law_many"] (defScope sPull) := ⟨rfl, rfl, rfl, by decide +kernel, rfl, by decide +kernel, by decide +kernel⟩
theorem scAny : FnScope ["_law_bag", "_law_things"] ["_law_bag", "_law_things"] (defScope sAny) := ⟨rfl, rfl, rfl, by decide +kernel, rfl, by decide +kernel, by decide +kernel⟩
/-! ### the bag of draws -/
theorem same_upd {H : Hp} {p : Addr} {o : HO} (h : H p = none) : Same H (upd H p o) := fun b x e => by
  rw [upd_ne (ne_of_none e h)]
  exact e
/-- all but what stands at b stays -/
def But (b : Addr) (H H' : Hp) : Prop := ∀ a o, H a = some o → a ≠ b → H' a = some o
theorem But.trans {b : Addr} {H H1 H2 : Hp} (x : But b H H1) (y : But b H1 H2) : But b H H2 := fun a o e n => y a o (x a o e n) n
theorem But.refl (b : Addr) (H : Hp) : But b H H := fun _ _ e _ => e
theorem But.upd {b : Addr} {H : Hp} {o : HO} : But b H (upd H b o) := fun a x e n => by rw [upd_ne n]; exact e
def bagL (c : Addr) (i g s t : Int) : List V := [.ref c, .int i, .int g, .int s, .int t]
def Bag (H : Hp) (b c : Addr) : Prop := ∃ (ns : List Int) (i : Nat) (g s t : Int), c ≠ b ∧ H b = some (.lst (bagL c i g s t)) ∧ H c = some (.lst (ns.map V.int)) ∧ ns.length ≤ 63 ∧ i ≤ ns.length ∧ 0 ≤ g ∧ 0 ≤ s ∧ s < 2147483587
theorem Bag.ne {H : Hp} {b c D : Addr} (B : Bag H b c) (h : H D = none) : D ≠ b ∧ D ≠ c := by
  obtain ⟨ns, i, g, s, t, cb, hb, hc, _⟩ := B
  exact ⟨(ne_of_none hb h).symm, (ne_of_none hc h).symm⟩
theorem Bag.cb {H : Hp} {b c : Addr} (B : Bag H b c) : c ≠ b := by
  obtain ⟨ns, i, g, s, t, cb, _⟩ := B
  exact cb
theorem Bag.upd {H : Hp} {b c D : Addr} {o : HO} (B : Bag H b c) (h1 : D ≠ b) (h2 : D ≠ c) : Bag (upd H D o) b c := by
  obtain ⟨ns, i, g, s, t, cb, hb, hc, r⟩ := B
  exact ⟨ns, i, g, s, t, cb, by rw [upd_ne h1.symm]; exact hb, by rw [upd_ne h2.symm]; exact hc, r⟩
theorem Bag.same {H H' : Hp} {b c : Addr} (B : Bag H b c) (h : Same H H') : Bag H' b c := by
  obtain ⟨ns, i, g, s, t, cb, hb, hc, r⟩ := B
  exact ⟨ns, i, g, s, t, cb, h _ _ hb, h _ _ hc, r⟩
theorem But.new {b D : Addr} {H H2 : Hp} {o : HO} (x : But b H H2) (h : H D = none) : But b H (L2.upd H2 D o) := fun a u e n => by
  rw [upd_ne (ne_of_none e h)]
  exact x a u e n
theorem But.free {b D : Addr} {H H2 : Hp} (x : But b H H2) (h : H2 D = none) (n : D ≠ b) : H D = none := by
  cases e : H D with
  | none => rfl
  | some o => rw [x D o e n] at h; cases h
theorem Same.but {b : Addr} {H H' : Hp} (s : Same H H') : But b H H' := fun a o e _ => s a o e
section
variable {P : Program} {w : World} {K : PySem.W.Frag} {mg : Str → Option Value} {base : Heap}
/-! ### opened -/
def spOpened (K : PySem.W.Frag) : Sp := fun vs H Q _ => ∃ (a : Addr) (ns : List Int), vs = [.ref a] ∧ SqL K H a (ns.map V.int) ∧ ns.length ≤ 63 ∧ ∀ H' b c, H b = none → H c = none → Same H H' → Bag H' b c → Q (.ref b) H'
theorem ok_opened {f : Addr} {fd : FuncData} {k : Nat} (F : Fun K "_law_opened" "_law_opened" sOpened f fd) (ml : mg "list" = none) : FnOk P w K mg base CX0 (k + 1) f fd ["_law_script"] (spOpened K) := by
  refine F.ok scOpened (fun vs H Q E h => ?_) (fun cdv A outer s H vs Q E hr h => ?_)
  · obtain ⟨a, ns, rfl, _⟩ := h
    rfl
  · obtain ⟨a, ns, rfl, hS, hlen, q⟩ := h
    refine ⟨_, pss_one (ps_ret (pe_lst (pa_cons (pe_callTy call_list_of (by rfl) ml (by decide +kernel) (pa_cons (pe_slice sl_list (pv 0) po_none (po_some pe_int)) pa_nil))
      (pa_cons pe_int (pa_cons pe_int (pa_cons pe_int (pa_cons pe_int pa_nil))))))), ?_⟩
    refine ⟨.ref a, rfl, 63, rfl, a, ns.map V.int, rfl, hS, fun c nc => ?_⟩
    refine ⟨c, _, rfl, .inl (.inl (.inl upd_same)), fun d nd => ?_⟩
    have ndc : d ≠ c := fun e => by
      rw [e, upd_same] at nd
      cases nd
    have ec : cutV (ns.map V.int) none (some 63) = ns.map V.int := by
      unfold cutV
      rw [show HT.sIx (ns.map V.int).length (ns.map V.int).length (some 63) = min 63 (ns.map V.int).length from HT.sIx_nat _ _ 63, HT.sIx_none]
      rw [List.drop_zero, List.length_map, Nat.sub_zero]
      apply List.take_of_length_le
      rw [List.length_map]
      omega
    rw [ec] at nd ⊢
    refine ⟨by show 5 ≤ sizeLine; decide, fun b nb => ?_⟩
    have nbd : b ≠ d := fun e => by
      rw [e, upd_same] at nb
      cases nb
    have s1 := same_upd (o := .lst (ns.map V.int)) nc
    have s2 := same_upd (o := .lst (ns.map V.int)) nd
    have s3 := same_upd (o := .lst (bagL d 0 0 5799 0)) nb
    refine q _ b d (s1.free (s2.free nb)) (s1.free nd) (s1.trans (s2.trans s3)) ⟨ns, 0, 0, 5799, 0, nbd.symm, upd_same, s3 _ _ upd_same, hlen, Nat.zero_le _, by decide, by decide, by decide⟩
end
end KT

namespace KT
open PySem PySem.Spec PyProof.Rows L2
section
variable {P : Program} {w : World} {K : PySem.W.Frag} {mg : Str → Option Value} {base : Heap}
/-! ### pull -/
def spPull : Sp := fun vs H Q _ => ∃ (b c : Addr) (m : Int), vs = [.ref b, .int m] ∧ Bag H b c ∧ 0 < m ∧ m < 1073741824 ∧ ∀ r H', 0 ≤ r → r < m → But b H H' → Bag H' b c → Q (.int r) H'
theorem ok_pull {f : Addr} {fd : FuncData} {k : Nat} (F : Fun K "_law_pull" "_law_pull" sPull f fd) (ml : mg "len" = none) (mi : mg "int" = none) : FnOk P w K mg base CX0 (k + 1) f fd ["_law_bag", "_law_many"] spPull := by
  refine F.ok scPull (fun vs H Q E h => ?_) (fun cdv A outer s H vs Q E hr h => ?_)
  · obtain ⟨b, c, m, rfl, _⟩ := h
    rfl
  · obtain ⟨b, c, m, rfl, B, m0, m1, q⟩ := h
    refine ⟨_, C8.pss_cut (ps_if (PW.pt (pw_and (pt_cmpR op_eq (pe_ix ix_list (pv 0) pe_int (fun _ _ => rfl)) pe_int (nomark _))
          (pw_and1 (pt_cmpR op_lt (pe_ix ix_list (pv 0) pe_int (fun _ _ => rfl)) (pe_callB call_len_seq (by rfl) ml PySem.boot_len (pa_cons (pe_ix ix_list (pv 0) pe_int (fun _ _ => rfl)) pa_nil)) (nomark _)))))
        (pss_cons (ps_set (i := 2) scPull.nd rfl (.inl rfl) (pe_ix ix_list (pe_ix ix_list (pv 0) pe_int (fun _ _ => rfl)) (pe_ix ix_list (pv 0) pe_int (fun _ _ => rfl)) (fun _ _ => rfl)))
        (pss_cons (ps_asg (pe_op op_add (pe_ix ix_list (pv 0) pe_int (fun _ _ => rfl)) pe_int) (pg_sub (pv 0) pe_int set_list))
        (pss_one (ps_if (pt_cmpR op_ge (pv 2) (pe_op op_pow pe_int pe_int) (nomark _))
          (pss_one (ps_asg (pv 2) (pg_sub (pv 0) pe_int set_list)))
          (pss_one (ps_asg (pe_op op_mod (pe_callTy call_int1 (by rfl) mi (by decide +kernel) (pa_cons (pe_op op_add (pe_op op_add (pe_op op_mul (pe_ix ix_list (pv 0) pe_int (fun _ _ => rfl)) pe_int)
              (pe_op op_mul (pe_op op_mod (pe_callTy call_int1 (by rfl) mi (by decide +kernel) (pa_cons (pv 2) pa_nil)) pe_int) pe_int)) pe_int) pa_nil)) pe_int) (pg_sub (pv 0) pe_int set_list))))))) pss_nil)
      (pss_cons (ps_if (pt_cmpR op_gt (pe_ix ix_list (pv 0) pe_int (fun _ _ => rfl)) pe_int (nomark _))
        (pss_cons (ps_set (i := 3) scPull.nd rfl (.inl rfl) (pe_op op_mod (pe_callTy call_int1 (by rfl) mi (by decide +kernel) (pa_cons (pe_ix ix_list (pv 0) pe_int (fun _ _ => rfl)) pa_nil)) (pv 1)))
        (pss_cons (ps_asg (pe_op op_fdiv (pe_ix ix_list (pv 0) pe_int (fun _ _ => rfl)) (pv 1)) (pg_sub (pv 0) pe_int set_list))
        (pss_one (ps_ret (pv 3))))) pss_nil)
      (pss_cons (ps_asg (pe_op op_add (pe_ix ix_list (pv 0) pe_int (fun _ _ => rfl)) pe_int) (pg_sub (pv 0) pe_int set_list))
      (pss_cons (ps_set (i := 4) scPull.nd rfl (.inl rfl) (pe_ix ix_list (pv 0) pe_int (fun _ _ => rfl)))
      (pss_cons (ps_asg (pe_op op_mod (pe_callTy call_int1 (by rfl) mi (by decide +kernel) (pa_cons (pe_op op_add (pe_op op_add (pe_op op_add (pe_op op_mul (pv 4) (pv 4)) (pe_op op_mul (pv 4) pe_int)) (pe_op op_mul (pe_ix ix_list (pv 0) pe_int (fun _ _ => rfl)) pe_int)) pe_int) pa_nil)) pe_int) (pg_sub (pv 0) pe_int set_list))
      (pss_one (ps_ret (pe_op op_mod (pe_callTy call_int1 (by rfl) mi (by decide +kernel) (pa_cons (pe_op op_add (pe_op op_fdiv (pe_ix ix_list (pv 0) pe_int (fun _ _ => rfl)) pe_int) (pe_op op_mul (pe_op op_mod (pe_callTy call_int1 (by rfl) mi (by decide +kernel) (pa_cons (pe_ix ix_list (pv 0) pe_int (fun _ _ => rfl)) pa_nil)) pe_int) pe_int)) pa_nil)) (pv 1)))))))), ?_⟩
    refine ⟨fun σ H' => ∃ y2, σ = [some (.ref b), some (.int m), y2, none, none] ∧ But b H H' ∧ Bag H' b c, ?_, ?_⟩
    · obtain ⟨ns, i, g, s', t, cb, hb, hc, hn, hi, hg, hs, hs2⟩ := id B
      -- bag[2] == 0
      refine ⟨.ref b, rfl, b, _, 2, .int g, rfl, rfl, .of hb, atI_nat (j := 2) rfl, rfl, _, rfl, ite2 (fun _ => ?_) (fun _ => ?_)⟩
      · refine ⟨.ref b, rfl, b, _, 1, .int i, rfl, rfl, .of hb, atI_nat (j := 1) rfl, .ref b, rfl, b, _, 0, .ref c, rfl, rfl, .of hb, atI_nat (j := 0) rfl, c, _, rfl, .inl (.of hc), _, _, rfl, rfl, _, rfl, ite2 (fun e => ?_) (fun _ => ?_)⟩
        · have lt : (i : Int) < ((ns.map V.int).length : Nat) := of_decide_eq_true e
          rw [List.length_map] at lt
          have hi' : i < ns.length := by omega
          have at1 : (ns.map V.int)[i]? = some (.int ns[i]) := by
            rw [List.getElem?_map, List.getElem?_eq_getElem hi']
            rfl
          refine ⟨.ref b, rfl, b, _, 0, .ref c, rfl, rfl, .of hb, atI_nat (j := 0) rfl, .ref b, rfl, b, _, 1, .int i, rfl, rfl, .of hb, atI_nat (j := 1) rfl, c, _, (i : Int), _, rfl, rfl, .of hc, atI_nat at1, ?_⟩
          refine ⟨.ref b, rfl, b, _, 1, .int i, rfl, rfl, .of hb, atI_nat (j := 1) rfl, _, _, rfl, rfl, .ref b, rfl, b, _, 1, 1, rfl, rfl, hb, Evl.ixN_nat (n := 5) (j := 1) (by decide), ?_⟩
          have h1 : (upd H b (.lst (bagL c ((i : Int) + 1) g s' t))) b = some (.lst (bagL c ((i : Int) + 1) g s' t)) := upd_same
          have h1c : (upd H b (.lst (bagL c ((i : Int) + 1) g s' t))) c = some (.lst (ns.map V.int)) := by rw [upd_ne cb]; exact hc
          refine ⟨.int ns[i], rfl, _, _, rfl, rfl, ⟨by decide, by decide, by decide⟩, _, _, rfl, rfl, _, rfl, ite2 (fun e2 => ?_) (fun _ => ?_)⟩
          · have le : (10 : Int) ^ 18 ≤ ns[i] := of_decide_eq_true e2
            refine ⟨.int ns[i], rfl, .ref b, rfl, b, _, 2, 2, rfl, rfl, h1, Evl.ixN_nat (n := 5) (j := 2) (by decide), ?_⟩
            refine ⟨_, rfl, ?_, ns, i + 1, ns[i], s', t, cb, upd_same, ?_, hn, by omega, ?_, hs, hs2⟩
            · exact But.trans But.upd But.upd
            · rw [upd_ne cb]; exact h1c
            · have : (0 : Int) ≤ 10 ^ 18 := by decide
              omega
          · refine ⟨.ref b, rfl, b, _, 3, .int s', rfl, rfl, .of h1, atI_nat (j := 3) rfl, _, _, rfl, rfl, .inr ⟨by decide, by decide⟩, .int ns[i], rfl, .inl ⟨_, rfl, _, _, rfl, rfl, (by show (0 : Int) < 2147483549; decide), _, _, rfl, rfl, .inr ⟨by decide, by decide⟩, _, _, rfl, rfl, _, _, rfl, rfl, .inl ⟨_, rfl, _, _, rfl, rfl, (by show (0 : Int) < 2147483587; decide), ?_⟩⟩⟩
            refine ⟨.ref b, rfl, b, _, 3, 3, rfl, rfl, h1, Evl.ixN_nat (n := 5) (j := 3) (by decide), ?_⟩
            refine ⟨_, rfl, ?_, ns, i + 1, g, _, t, cb, upd_same, ?_, hn, by omega, hg, Int.emod_nonneg _ (by decide), Int.emod_lt_of_pos _ (by decide)⟩
            · exact But.trans But.upd But.upd
            · rw [upd_ne cb]; exact h1c
        · exact ⟨none, rfl, But.refl _ _, B⟩
      · exact ⟨none, rfl, But.refl _ _, B⟩
    · rintro σ H1 ⟨y2, rfl, b1, B1⟩
      obtain ⟨ns, i, g, s', t, cb, hb, hc, hn, hi, hg, hs, hs2⟩ := id B1
      refine ⟨.ref b, rfl, b, _, 2, .int g, rfl, rfl, .of hb, atI_nat (j := 2) rfl, _, _, rfl, rfl, _, rfl, ite2 (fun e => ?_) (fun _ => ?_)⟩
      · refine ⟨.ref b, rfl, b, _, 2, .int g, rfl, rfl, .of hb, atI_nat (j := 2) rfl, .inl ⟨_, rfl, .int m, rfl, _, _, rfl, rfl, m0, ?_⟩⟩
        refine ⟨.ref b, rfl, b, _, 2, .int g, rfl, rfl, .of hb, atI_nat (j := 2) rfl, .int m, rfl, _, _, rfl, rfl, ⟨m0, m1⟩, .ref b, rfl, b, _, 2, 2, rfl, rfl, hb, Evl.ixN_nat (n := 5) (j := 2) (by decide), .int (g % m), rfl, ?_⟩
        refine q _ _ (Int.emod_nonneg _ (by omega)) (Int.emod_lt_of_pos _ m0) (b1.trans But.upd) ⟨ns, i, g / m, s', t, cb, upd_same, ?_, hn, hi, Int.ediv_nonneg hg (by omega), hs, hs2⟩
        rw [upd_ne cb]; exact hc
      · refine ⟨.ref b, rfl, b, _, 4, .int t, rfl, rfl, .of hb, atI_nat (j := 4) rfl, _, _, rfl, rfl, .ref b, rfl, b, _, 4, 4, rfl, rfl, hb, Evl.ixN_nat (n := 5) (j := 4) (by decide), ?_⟩
        have h1 : (upd H1 b (.lst (bagL c i g s' (t + 1)))) b = some (.lst (bagL c i g s' (t + 1))) := upd_same
        refine ⟨.ref b, rfl, b, _, 3, .int s', rfl, rfl, .of h1, atI_nat (j := 3) rfl, ?_⟩
        refine ⟨.int s', rfl, .int s', rfl, _, _, rfl, rfl, .inl ⟨by omega, by omega⟩, .int s', rfl, _, _, rfl, rfl, .inr ⟨by decide, by decide⟩, _, _, rfl, rfl, .ref b, rfl, b, _, 4, .int (t + 1), rfl, rfl, .of h1, atI_nat (j := 4) rfl, _, _, rfl, rfl, .inr ⟨by decide, by decide⟩, _, _, rfl, rfl, _, _, rfl, rfl, .inl ⟨_, rfl, _, _, rfl, rfl, (by show (0 : Int) < 2147483587; decide), ?_⟩⟩
        refine ⟨.ref b, rfl, b, _, 3, 3, rfl, rfl, h1, Evl.ixN_nat (n := 5) (j := 3) (by decide), ?_⟩
        let s2 : Int := (s' * s' + s' * 35023 + (t + 1) * 1299721 + 93251) % 2147483587
        have h2 : (upd (upd H1 b (.lst (bagL c i g s' (t + 1)))) b (.lst (bagL c i g s2 (t + 1)))) b = some (.lst (bagL c i g s2 (t + 1))) := upd_same
        refine ⟨.ref b, rfl, b, _, 3, .int s2, rfl, rfl, .of h2, atI_nat (j := 3) rfl, _, _, rfl, rfl, ⟨by decide, by decide⟩, .ref b, rfl, b, _, 3, .int s2, rfl, rfl, .of h2, atI_nat (j := 3) rfl, .inl ⟨_, rfl, _, _, rfl, rfl, (by show (0 : Int) < 7927; decide), _, _, rfl, rfl, .inr ⟨by decide, by decide⟩, _, _, rfl, rfl, .inl ⟨_, rfl, .int m, rfl, _, _, rfl, rfl, m0, ?_⟩⟩⟩
        refine q _ _ (Int.emod_nonneg _ (by omega)) (Int.emod_lt_of_pos _ m0) ((b1.trans But.upd).trans But.upd) ⟨ns, i, g, s2, t + 1, cb, upd_same, ?_, hn, hi, hg, Int.emod_nonneg _ (by decide), Int.emod_lt_of_pos _ (by decide)⟩
        rw [upd_ne cb, upd_ne cb]; exact hc
end
end KT

namespace KT
open PySem PySem.Spec PyProof.Rows L2
section
variable {P : Program} {w : World} {K : PySem.W.Frag} {mg : Str → Option Value} {base : Heap}
/-! ### any -/
def spAny : Sp := fun vs H Q _ => ∃ (b c : Addr) (x : V), vs = [.ref b, x] ∧ Bag H b c ∧
  ((∃ (p : Addr) (xs : List V), x = .ref p ∧ H p = some (.lst xs) ∧ p ≠ b ∧ 0 < xs.length ∧ xs.length ≤ 1000 ∧ ∀ (r : Nat) v H', xs[r]? = some v → But b H H' → Bag H' b c → Q v H') ∨
   (∃ z : Str, x = .str z ∧ 0 < z.length ∧ z.length ≤ 1000 ∧ ∀ (r : Nat) d H', z.cps.toList[r]? = some d → But b H H' → Bag H' b c → Q (.str ⟨#[d]⟩) H'))
theorem ok_any {f fP : Addr} {fd fdP : FuncData} {k : Nat} (F : Fun K "_law_any" "_law_any" sAny f fd) (FP : Fun K "_law_pull" "_law_pull" sPull fP fdP) (bP : Binds K fdP ["_law_bag", "_law_many"] []) (gP : mg "_law_pull" = some (.ref fP)) (ml : mg "len" = none) (mi : mg "int" = none) :
    FnOk P w K mg base CX0 (k + 2) f fd ["_law_bag", "_law_things"] spAny := by
  have GP : FnOk P w K mg base CX0 (k + 1) fP fdP ["_law_bag", "_law_many"] spPull := ok_pull FP ml mi
  refine F.ok scAny (fun vs H Q E h => ?_) (fun cdv A outer s H vs Q E hr h => ?_)
  · obtain ⟨b, c, x, rfl, _⟩ := h
    rfl
  · obtain ⟨b, c, x, rfl, B, h⟩ := h
    refine ⟨_, pss_one (ps_ret (pe_ix ix_seq (pv 1) (pe_call GP hr (by rfl) gP FP.kp bP .nil pass0 (pa_cons (pv 0) (pa_cons (pe_callB call_len (by rfl) ml PySem.boot_len (pa_cons (pv 1) pa_nil)) pa_nil))) (fun _ _ => rfl))), ?_⟩
    rcases h with ⟨p, xs, rfl, hp, pb, l0, l1, q⟩ | ⟨z, rfl, l0, l1, q⟩
    · refine ⟨.ref p, rfl, .ref b, rfl, .ref p, rfl, .ref p, xs.length, rfl, .inl ⟨xs, .of hp, rfl⟩, b, c, _, rfl, B, by omega, by omega, fun r H' r0 r1 bt B' => ?_⟩
      obtain ⟨j, rfl⟩ : ∃ j : Nat, r = j := ⟨r.toNat, by omega⟩
      have hj : j < xs.length := by omega
      exact .inl ⟨p, xs, j, xs[j], rfl, rfl, .of (bt _ _ hp pb), atI_nat (List.getElem?_eq_getElem hj), q j _ _ (List.getElem?_eq_getElem hj) bt B'⟩
    · have zl : z.length ≤ sizeLine := Nat.le_of_lt (small1000 l1)
      refine ⟨.str z, rfl, .ref b, rfl, .str z, rfl, .str z, z.length, rfl, ⟨zl, rfl⟩, b, c, _, rfl, B, by omega, by omega, fun r H' r0 r1 bt B' => ?_⟩
      obtain ⟨j, rfl⟩ : ∃ j : Nat, r = j := ⟨r.toNat, by omega⟩
      have hj : j < z.cps.toList.length := by
        have e : z.cps.toList.length = z.length := by simp [Str.length]
        omega
      exact .inr (.inr ⟨z, j, z.cps.toList[j], rfl, rfl, zl, atI_nat (List.getElem?_eq_getElem hj), q j _ _ (List.getElem?_eq_getElem hj) bt B'⟩)
end
end KT

namespace KT
open PySem PySem.Spec PyProof.Rows L2
theorem scNames : FnScope ["_law_bag", "_law_many", "_law_letters", "_law_stem", "_law_at", "_law_first", "_law_k"] ["_law_bag", "_law_many"] (defScope sNames) := ⟨rfl, rfl, rfl, by decide +kernel, rfl, by decide +kernel, by decide +kernel⟩
/-! ### names -/
def lets : List Nat := (List.range 26).map (· + 97)
def letS : Str := "abcdefghijklmnopqrstuvwxyz"
theorem letS_codes : letS.cps.toList = lets := by decide +kernel
def LC (c : Nat) : Prop := 97 ≤ c ∧ c ≤ 122
structure NameS (z : Str) : Prop where
  lo : 1 ≤ z.length
  hi : z.length ≤ 8
  al : ∀ c ∈ z.cps.toList, LC c
theorem lets_get {r c : Nat} (h : lets[r]? = some c) : LC c ∧ c = 97 + r ∧ r < 26 := by
  unfold lets at h
  rw [List.getElem?_map] at h
  have hr : r < 26 := by
    apply Classical.byContradiction
    intro hn
    rw [List.getElem?_eq_none (by simp; omega)] at h
    cases h
  rw [List.getElem?_eq_getElem (by simpa using hr)] at h
  simp at h
  unfold LC
  omega
def nameL (stem : List Nat) (at_ : Nat) (c : Nat) : List Nat := stem.take at_ ++ [c] ++ stem.drop at_
theorem nameL_len (stem : List Nat) (n c : Nat) : (nameL stem n c).length = stem.length + 1 := by
  simp [nameL]
  omega
theorem nameL_inj {stem : List Nat} {n c d : Nat} (h : nameL stem n c = nameL stem n d) : c = d := by
  simpa [nameL] using h
theorem ext_cps {x y : Str} (h : x.cps.toList = y.cps.toList) : x = y := by
  cases x; cases y
  simp at h
  subst h
  rfl
open TL in
theorem join_ones : ∀ cs : List Nat, (Txt.join (⟨#[]⟩ : Str) (cs.map fun c => (⟨#[c]⟩ : Str))).cps.toList = cs := by
  intro cs
  rw [join_eq]
  have e := tl_join (⟨#[]⟩ : Str) (cs.map fun c => (⟨#[c]⟩ : Str))
  have e2 : ∀ cs : List Nat, joinL (tl (⟨#[]⟩ : Str)) ((cs.map fun c => (⟨#[c]⟩ : Str)).map tl) = cs := by
    intro cs
    induction cs with
    | nil => rfl
    | cons c r ih =>
      cases r with
      | nil => rfl
      | cons d r =>
        show [c] ++ ([] ++ joinL _ _) = _
        simp only [List.map_cons] at ih
        simp only [List.map_cons]
        rw [ih]
        rfl
  exact e.trans (e2 cs)
theorem sum_ones : ∀ cs : List Nat, ((cs.map fun c => (⟨#[c]⟩ : Str)).map (·.length)).sum = cs.length
  | [] => rfl
  | c :: r => by
    rw [List.map_cons, List.map_cons, List.sum_cons, sum_ones r]
    show 1 + r.length = r.length + 1
    omega
theorem cut_pre {st : Str} {n : Nat} (h : n ≤ st.length) : (cutS st none (some (n : Int))).cps.toList = st.cps.toList.take n := by
  unfold cutS
  rw [HT.sIx_nat, HT.sIx_none]
  simp only [List.drop_zero, Nat.sub_zero]
  rw [Nat.min_eq_left h]
theorem cut_post {st : Str} {n : Nat} (h : n ≤ st.length) : (cutS st (some (n : Int)) none).cps.toList = st.cps.toList.drop n := by
  unfold cutS
  rw [HT.sIx_nat, HT.sIx_none, Nat.min_eq_left h]
  show List.take _ _ = _
  apply List.take_of_length_le
  rw [List.length_drop]
  simp [Str.length]
theorem len_codes (z : Str) : z.length = z.cps.toList.length := by simp [Str.length]
theorem name_codes {st : Str} {cs : List Nat} {n c : Nat} (e : st.cps.toList = cs) (h : n ≤ st.length) :
    (cutS st none (some (n : Int)) ++ (⟨#[c]⟩ : Str) ++ cutS st (some (n : Int)) none).cps.toList = nameL cs n c := by
  have a := TL.tl_append (cutS st none (some (n : Int)) ++ (⟨#[c]⟩ : Str)) (cutS st (some (n : Int)) none)
  have a2 := TL.tl_append (cutS st none (some (n : Int))) (⟨#[c]⟩ : Str)
  unfold TL.tl at a a2
  rw [a, a2, cut_pre h, cut_post h, e]
  rfl
section
variable {P : Program} {w : World} {K : PySem.W.Frag} {mg : Str → Option Value} {base : Heap}
def spNames : Sp := fun vs H Q _ => ∃ (b c : Addr) (m : Nat), vs = [.ref b, .int m] ∧ Bag H b c ∧ 2 ≤ m ∧ m ≤ 3 ∧
  ∀ (H' : Hp) (l : Addr) (zs : List Str), H l = none → H' l = some (.lst (zs.map V.str)) → But b H H' → Bag H' b c → zs.length = m → (∀ z ∈ zs, NameS z) → zs.Nodup → Q (.ref l) H'
theorem ok_names {f fP fA : Addr} {fd fdP fdA : FuncData} {k : Nat} (F : Fun K "_law_names" "_law_names" sNames f fd) (FP : Fun K "_law_pull" "_law_pull" sPull fP fdP) (bP : Binds K fdP ["_law_bag", "_law_many"] []) (gP : mg "_law_pull" = some (.ref fP))
    (FA : Fun K "_law_any" "_law_any" sAny fA fdA) (bA : Binds K fdA ["_law_bag", "_law_things"] []) (gA : mg "_law_any" = some (.ref fA)) (ml : mg "len" = none) (mi : mg "int" = none) (mr : mg "range" = none) :
    FnOk P w K mg base CX0 (k + 3) f fd ["_law_bag", "_law_many"] spNames := by
  have GP : FnOk P w K mg base CX0 (k + 1) fP fdP ["_law_bag", "_law_many"] spPull := ok_pull FP ml mi
  have GA : FnOk P w K mg base CX0 (k + 2) fA fdA ["_law_bag", "_law_things"] spAny := ok_any FA FP bP gP ml mi
  refine F.ok scNames (fun vs H Q E h => ?_) (fun cdv A outer s H vs Q E hr h => ?_)
  · obtain ⟨b, c, m, rfl, _⟩ := h
    rfl
  · obtain ⟨b, c, m, rfl, B, m0, m1, q⟩ := h
    have hr1 : Room (k + 1) _ := hr.mono (Nat.le_succ _)
    refine ⟨_, pss_cons (ps_set (i := 2) scNames.nd rfl (.inr rfl) pe_str)
      (pss_cons (ps_set (i := 3) scNames.nd rfl (.inr rfl) (pe_join pe_str (pe_lc (own := [("_law_k", 6)]) (g := gName 6) (tt := tYes) rfl scNames.nd
          (pi_range1 rfl mr (pa_cons (pe_call GP hr1 (by rfl) gP FP.kp bP .nil pass0 (pa_cons (pv 0) (pa_cons pe_int pa_nil))) pa_nil))
          (blkOk_by (N := ["_law_bag", "_law_many", "_law_letters", "_law_stem", "_law_at", "_law_first", "_law_k"]) (sc := defScope sNames) (by decide +kernel))
          (fun _ _ _ _ _ => pg_name (i := 6) scNames.nd rfl (Or.inl rfl)) (fun _ _ _ _ _ => pts_nil)
          (fun _ _ _ _ _ => pe_call GA hr (by rfl) gA FA.kp bA .nil pass0 (pa_cons (pv 0) (pa_cons (pv 2) pa_nil))))))
      (pss_cons (ps_asg (pe_tup (pa_cons (pe_call GP hr1 (by rfl) gP FP.kp bP .nil pass0 (pa_cons (pv 0) (pa_cons (pe_op op_add (pe_callB call_len_str (by rfl) ml PySem.boot_len (pa_cons (pv 3) pa_nil)) pe_int) pa_nil)))
            (pa_cons (pe_call GP hr1 (by rfl) gP FP.kp bP .nil pass0 (pa_cons (pv 0) (pa_cons pe_int pa_nil))) pa_nil)))
          (pg_tup rfl (pgs_cons (pg_name (i := 4) scNames.nd rfl (.inr rfl)) (pgs_cons (pg_name (i := 5) scNames.nd rfl (.inr rfl)) pgs_nil))))
      (pss_one (ps_ret (pe_lc (own := [("_law_k", 6)]) (g := gName 6) (tt := tYes) rfl scNames.nd
          (pi_range1 rfl mr (pa_cons (pv 1) pa_nil))
          (blkOk_by (N := ["_law_bag", "_law_many", "_law_letters", "_law_stem", "_law_at", "_law_first", "_law_k"]) (sc := defScope sNames) (by decide +kernel))
          (fun _ _ _ _ _ => pg_name (i := 6) scNames.nd rfl (Or.inl rfl)) (fun _ _ _ _ _ => pts_nil)
          (fun _ _ _ _ _ => pe_op op_add_str (pe_op op_add_str (pe_slice sl_str (pv 3) po_none (po_some (pv 4))) (pe_ix ix_str (pv 2) (pe_op op_mod (pe_callTy call_int1 (by rfl) mi (by decide +kernel) (pa_cons (pe_op op_add (pv 5) (pe_op op_mul pe_int (pv 6))) pa_nil)) pe_int) (fun _ _ => rfl)))
            (pe_slice sl_str (pv 3) (po_some (pv 4)) po_none))))))), ?_⟩
    -- letters; the stem
    refine ⟨⟨_, rfl⟩, .ref b, rfl, b, c, 8, rfl, B, by decide, by decide, fun r H1 r0 r1 bt B1 => ?_⟩
    refine ⟨r, rfl, by omega, by omega, fun D nD => ?_⟩
    obtain ⟨Db, Dc⟩ := B1.ne nD
    have nDH : H D = none := bt.free nD Db
    refine lc_range (lo := 0) (n := r.toNat) (fun i H2 => ∃ cs : List Nat, cs.length = i ∧ (∀ c ∈ cs, LC c) ∧ H2 D = some (.lst ((cs.map fun c => (⟨#[c]⟩ : Str)).map V.str)) ∧ But b H H2 ∧ Bag H2 b c)
      ⟨[], rfl, (fun _ h => by cases h), upd_same, bt.new nDH, B1.upd Db Dc⟩ ?_ ?_
    · rintro i H2 hi ⟨cs, hl, ha, hD, bt2, B2⟩
      refine ⟨rfl, .ref b, rfl, .str letS, rfl, b, c, .str letS, rfl, B2, .inr ⟨letS, rfl, by decide +kernel, by decide +kernel, fun j d H3 hc bt3 B3 => ?_⟩⟩
      rw [letS_codes] at hc
      have D3 := bt3 _ _ hD Db
      refine ⟨_, D3, ?_, cs ++ [d], by simp [hl], fun x hx => ?_, ?_, (bt2.trans bt3).new nDH, B3.upd Db Dc⟩
      · simp only [List.length_map]
        exact small1000 (by omega)
      · rcases List.mem_append.mp hx with h | h
        · exact ha x h
        · simp at h
          subst h
          exact (lets_get hc).1
      · rw [upd_same]
        simp
    · rintro H2 ⟨cs, hl, ha, hD, bt2, B2⟩
      have r7 : r.toNat ≤ 7 := by omega
      refine ⟨(⟨#[]⟩ : Str), D, cs.map fun c => (⟨#[c]⟩ : Str), rfl, rfl, .inl (.of hD), ?_, ?_⟩
      · rw [sum_ones]
        show cs.length + (cs.map fun c => (⟨#[c]⟩ : Str)).length * 0 ≤ _
        omega
      -- at, first
      generalize hst : Txt.join (⟨#[]⟩ : Str) (cs.map fun c => (⟨#[c]⟩ : Str)) = st
      have est : st.cps.toList = cs := by rw [← hst]; exact join_ones cs
      have elen : st.length = cs.length := by
        rw [← est]
        simp [Str.length]
      have stl : st.length ≤ sizeLine := Nat.le_of_lt (small1000 (by omega))
      refine ⟨.ref b, rfl, .str st, rfl, _, rfl, stl, _, _, rfl, rfl, b, c, _, rfl, B2, by omega, by omega, fun at_ H3 a0 a1 bt3 B3 => ?_⟩
      refine ⟨.ref b, rfl, b, c, 26, rfl, B3, by decide, by decide, fun fi H4 f0 f1 bt4 B4 => ?_⟩
      refine ⟨by show 2 ≤ sizeLine; decide, fun T nT => ?_⟩
      obtain ⟨Tb, Tc⟩ := B4.ne nT
      have bH4 : But b H H4 := (bt2.trans bt3).trans bt4
      have nTH : H T = none := bH4.free nT Tb
      refine ⟨T, [.int at_, .int fi], rfl, .of upd_same, rfl, .int at_, [.int fi], rfl, .int fi, [], rfl, rfl, ?_⟩
      -- the names
      refine ⟨.int m, rfl, m, rfl, by omega, by omega, fun l nl => ?_⟩
      have B5 := B4.upd (o := .tup [.int at_, .int fi]) Tb Tc
      have bH5 := bH4.new (o := .tup [.int at_, .int fi]) nTH
      obtain ⟨lb, lc⟩ := B5.ne nl
      have nlH : H l = none := bH5.free nl lb
      refine lc_range (lo := 0) (n := (m : Int).toNat) (fun i H2 => ∃ zs : List Str, zs.length = i ∧ (∀ j (z : Str), zs[j]? = some z → z.cps.toList = nameL cs at_.toNat (97 + (fi.toNat + 7 * j) % 26)) ∧ H2 l = some (.lst (zs.map V.str)) ∧ But b H H2 ∧ Bag H2 b c)
        ⟨[], rfl, (fun j z h => by simp at h), upd_same, bH5.new nlH, B5.upd lb lc⟩ ?_ ?_
      · rintro i H6 hi ⟨zs, zl, za, hl6, bt6, B6⟩
        refine ⟨rfl, .str st, rfl, .int at_, rfl, at_, rfl, st, rfl, stl, .str letS, rfl, .int fi, rfl, .int (0 + i), rfl, _, _, rfl, rfl, .inl ⟨by decide, by decide⟩, _, _, rfl, rfl, .inl ⟨_, rfl, _, _, rfl, rfl, (by show (0 : Int) < 26; decide), ?_⟩⟩
        have e1 : (fi + 7 * (0 + (i : Int))) % 26 = (((fi.toNat + 7 * i) % 26 : Nat) : Int) := by omega
        have ea : at_ = ((at_.toNat : Nat) : Int) := by omega
        have hat : at_.toNat ≤ st.length := by omega
        have hg : lets[(fi.toNat + 7 * i) % 26]? = some (97 + (fi.toNat + 7 * i) % 26) := by
          have h26 : (fi.toNat + 7 * i) % 26 < 26 := Nat.mod_lt _ (by decide)
          unfold lets
          rw [List.getElem?_map, List.getElem?_eq_getElem (by simpa using h26)]
          simp
          omega
        have nc := name_codes (c := 97 + (fi.toNat + 7 * i) % 26) est hat
        rw [← ea] at nc
        have lcs : cs.length ≤ 7 := by omega
        have lp : (cutS st none (some at_)).length ≤ 8 := by
          rw [len_codes, ea, cut_pre hat, List.length_take]
          omega
        have lq : (cutS st (some at_) none).length ≤ 8 := by
          rw [len_codes, ea, cut_post hat, List.length_drop, est]
          omega
        have lm : (cutS st none (some at_) ++ (⟨#[97 + (fi.toNat + 7 * i) % 26]⟩ : Str)).length ≤ 9 := by
          rw [len_codes]
          have a2 := TL.tl_append (cutS st none (some at_)) (⟨#[97 + (fi.toNat + 7 * i) % 26]⟩ : Str)
          unfold TL.tl at a2
          rw [a2, List.length_append, ← len_codes]
          show _ + 1 ≤ 9
          omega
        refine ⟨letS, _, 97 + (fi.toNat + 7 * i) % 26, rfl, rfl, by decide +kernel, ?_, _, _, rfl, rfl, ?_, .str st, rfl, .int at_, rfl, at_, rfl, st, rfl, stl, _, _, rfl, rfl, ?_, _, hl6, ?_, zs ++ [cutS st none (some at_) ++ (⟨#[97 + (fi.toNat + 7 * i) % 26]⟩ : Str) ++ cutS st (some at_) none], ?_, ?_, ?_, bt6.new nlH, B6.upd lb lc⟩
        · rw [e1, letS_codes]
          exact atI_nat hg
        · exact Nat.le_of_lt (small1000 (by show _ + 1 ≤ 1000; omega))
        · exact Nat.le_of_lt (small1000 (by omega))
        · rw [List.length_map]
          exact small1000 (by omega)
        · simp [zl]
        · intro j z hz
          rcases Nat.lt_trichotomy j zs.length with h | h | h
          · rw [List.getElem?_append_left h] at hz
            exact za j z hz
          · subst h
            simp at hz
            subst hz
            rw [nc, zl]
          · rw [List.getElem?_eq_none (by simp; omega)] at hz
            cases hz
        · rw [upd_same]
          simp
      · rintro H6 ⟨zs, zl, za, hl6, bt6, B6⟩
        have zl3 : zs.length = m := by omega
        refine q H6 l zs nlH hl6 bt6 B6 zl3 ?_ ?_
        · intro z hz
          obtain ⟨j, hj⟩ := List.mem_iff_getElem?.mp hz
          have ez := za j z hj
          have lz : z.length = cs.length + 1 := by rw [len_codes, ez, nameL_len]
          refine ⟨by omega, by omega, fun d hd => ?_⟩
          rw [ez] at hd
          unfold nameL at hd
          rcases List.mem_append.mp hd with h | h
          · rcases List.mem_append.mp h with h | h
            · exact ha d (List.mem_of_mem_take h)
            · simp at h
              unfold LC
              omega
          · exact ha d (List.mem_of_mem_drop h)
        · refine List.pairwise_iff_getElem.mpr fun i j hi hj hij e3 => ?_
          have e1 := za i _ (List.getElem?_eq_getElem hi)
          have e2 := za j _ (List.getElem?_eq_getElem hj)
          rw [e3, e2] at e1
          have e4 := nameL_inj e1
          omega
end
end KT

namespace KT
open PySem PySem.Spec PyProof.Rows L2
theorem scWord : FnScope ["_law_bag"] ["_law_bag"] (defScope sWord) := ⟨rfl, rfl, rfl, by decide +kernel, rfl, by decide +kernel, by decide +kernel⟩
theorem scTable : FnScope ["_law_bag", "_law_k"] ["_law_bag"] (defScope sTable) := ⟨rfl, rfl, rfl, by decide +kernel, rfl, by decide +kernel, by decide +kernel⟩
theorem scGround : FnScope ["_law_bag", "_law_most", "_law_names_here"] ["_law_bag", "_law_most"] (defScope sGround) := ⟨rfl, rfl, rfl, by decide +kernel, rfl, by decide +kernel, by decide +kernel⟩
def basesL : List Str := ["newest", "eldest", "any", "every", "refuse"]
structure Tab (z : Str) : Prop where
  len : z.cps.toList.length = 4
  dig : ∀ c ∈ z.cps.toList, c = 48 ∨ c = 49
structure Gnd (H : Hp) (g n : Addr) (zs : List Str) (pl : Nat) (tb wd : Str) : Prop where
  gt : H g = some (.tup [.ref n, .int pl, .str tb, .str wd])
  nt : H n = some (.tup (zs.map V.str))
  lo : 2 ≤ zs.length
  hi : zs.length ≤ 3
  nm : ∀ z ∈ zs, NameS z
  nd : zs.Nodup
  p1 : 1 ≤ pl
  p2 : pl ≤ 2
  tb : Tab tb
  wd : wd ∈ basesL
section
variable {P : Program} {w : World} {K : PySem.W.Frag} {mg : Str → Option Value} {base : Heap}
/-- what the prelude's defs want of the top -/
structure Pre (K : PySem.W.Frag) (mg : Str → Option Value) (fP fA : Addr) (fdP fdA : FuncData) : Prop where
  FP : Fun K "_law_pull" "_law_pull" sPull fP fdP
  bP : Binds K fdP ["_law_bag", "_law_many"] []
  gP : mg "_law_pull" = some (.ref fP)
  FA : Fun K "_law_any" "_law_any" sAny fA fdA
  bA : Binds K fdA ["_law_bag", "_law_things"] []
  gA : mg "_law_any" = some (.ref fA)
  ml : mg "len" = none
  mi : mg "int" = none
  mr : mg "range" = none
  mt : mg "tuple" = none
theorem Pre.okP {fP fA : Addr} {fdP fdA : FuncData} (T : Pre K mg fP fA fdP fdA) (k : Nat) : FnOk P w K mg base CX0 (k + 1) fP fdP ["_law_bag", "_law_many"] spPull := ok_pull T.FP T.ml T.mi
theorem Pre.okA {fP fA : Addr} {fdP fdA : FuncData} (T : Pre K mg fP fA fdP fdA) (k : Nat) : FnOk P w K mg base CX0 (k + 2) fA fdA ["_law_bag", "_law_things"] spAny := ok_any T.FA T.FP T.bP T.gP T.ml T.mi
def spWord : Sp := fun vs H Q _ => ∃ (b c : Addr), vs = [.ref b] ∧ Bag H b c ∧ ∀ (H' : Hp) (z : Str), But b H H' → Bag H' b c → z ∈ basesL → Q (.str z) H'
theorem ok_word {f fP fA : Addr} {fd fdP fdA : FuncData} {k : Nat} (F : Fun K "_law_bases_word" "_law_bases_word" sWord f fd) (T : Pre K mg fP fA fdP fdA) : FnOk P w K mg base CX0 (k + 3) f fd ["_law_bag"] spWord := by
  refine F.ok scWord (fun vs H Q E h => ?_) (fun cdv A outer s H vs Q E hr h => ?_)
  · obtain ⟨b, c, rfl, _⟩ := h
    rfl
  · obtain ⟨b, c, rfl, B, q⟩ := h
    refine ⟨_, pss_one (ps_ret (pe_call (T.okA k) hr (by rfl) T.gA T.FA.kp T.bA .nil pass0 (pa_cons (pv 0) (pa_cons (pe_lst (pa_cons pe_str (pa_cons pe_str (pa_cons pe_str (pa_cons pe_str (pa_cons pe_str pa_nil)))))) pa_nil)))), ?_⟩
    refine ⟨.ref b, rfl, by show 5 ≤ sizeLine; decide, fun l nl => ?_⟩
    obtain ⟨lb, lc⟩ := B.ne nl
    refine ⟨b, c, .ref l, rfl, B.upd lb lc, .inl ⟨l, _, rfl, upd_same, lb, by decide, by decide, fun r v H' hv bt B' => ?_⟩⟩
    have hm : v ∈ basesL.map V.str := List.mem_of_getElem? hv
    obtain ⟨z, hz, rfl⟩ := List.mem_map.mp hm
    exact q H' z (But.trans ((But.refl b H).new nl) bt) B' hz
def spTable : Sp := fun vs H Q _ => ∃ (b c : Addr), vs = [.ref b] ∧ Bag H b c ∧ ∀ (H' : Hp) (z : Str), But b H H' → Bag H' b c → Tab z → Q (.str z) H'
theorem ok_table {f fP fA : Addr} {fd fdP fdA : FuncData} {k : Nat} (F : Fun K "_law_table" "_law_table" sTable f fd) (T : Pre K mg fP fA fdP fdA) : FnOk P w K mg base CX0 (k + 3) f fd ["_law_bag"] spTable := by
  refine F.ok scTable (fun vs H Q E h => ?_) (fun cdv A outer s H vs Q E hr h => ?_)
  · obtain ⟨b, c, rfl, _⟩ := h
    rfl
  · obtain ⟨b, c, rfl, B, q⟩ := h
    have hr1 : Room (k + 1) _ := hr.mono (Nat.le_succ _)
    refine ⟨_, pss_cons (ps_if (pt_cmpR op_eq (pe_call (T.okP k) hr1 (by rfl) T.gP T.FP.kp T.bP .nil pass0 (pa_cons (pv 0) (pa_cons pe_int pa_nil))) pe_int (nomark _)) (pss_one (ps_ret pe_str)) pss_nil)
      (pss_one (ps_ret (pe_join pe_str (pe_lc (own := [("_law_k", 1)]) (g := gName 1) (tt := tYes) rfl scTable.nd
          (pi_range1 rfl T.mr (pa_cons pe_int pa_nil))
          (blkOk_by (N := ["_law_bag", "_law_k"]) (sc := defScope sTable) (by decide +kernel))
          (fun _ _ _ _ _ => pg_name (i := 1) scTable.nd rfl (Or.inl rfl)) (fun _ _ _ _ _ => pts_nil)
          (fun _ _ _ _ _ => pe_call (T.okA k) hr (by rfl) T.gA T.FA.kp T.bA .nil pass0 (pa_cons (pv 0) (pa_cons pe_str pa_nil))))))), ?_⟩
    refine ⟨.ref b, rfl, b, c, 2, rfl, B, by decide, by decide, fun r H1 r0 r1 bt B1 => ?_⟩
    refine ⟨rfl, _, rfl, ite2 (fun _ => ?_) (fun _ => ?_)⟩
    · exact q H1 _ bt B1 ⟨by decide +kernel, by decide +kernel⟩
    · refine ⟨⟨_, rfl⟩, 4, rfl, by decide, by decide, fun D nD => ?_⟩
      obtain ⟨Db, Dc⟩ := B1.ne nD
      have nDH : H D = none := bt.free nD Db
      refine lc_range (lo := 0) (n := 4) (fun i H2 => ∃ cs : List Nat, cs.length = i ∧ (∀ c ∈ cs, c = 48 ∨ c = 49) ∧ H2 D = some (.lst ((cs.map fun c => (⟨#[c]⟩ : Str)).map V.str)) ∧ But b H H2 ∧ Bag H2 b c)
        ⟨[], rfl, (fun _ h => by cases h), upd_same, bt.new nDH, B1.upd Db Dc⟩ ?_ ?_
      · rintro i H2 hi ⟨cs, hl, ha, hD, bt2, B2⟩
        refine ⟨rfl, .ref b, rfl, b, c, .str "01", rfl, B2, .inr ⟨_, rfl, by decide +kernel, by decide +kernel, fun j d H3 hc bt3 B3 => ?_⟩⟩
        have D3 := bt3 _ _ hD Db
        refine ⟨_, D3, ?_, cs ++ [d], by simp [hl], fun x hx => ?_, ?_, (bt2.trans bt3).new nDH, B3.upd Db Dc⟩
        · simp only [List.length_map]
          exact small1000 (by omega)
        · rcases List.mem_append.mp hx with h | h
          · exact ha x h
          · simp at h
            subst h
            have e : ("01" : Str).cps.toList = [48, 49] := by decide +kernel
            rw [e] at hc
            have hm := List.mem_of_getElem? hc
            simpa using hm
        · rw [upd_same]
          simp
      · rintro H2 ⟨cs, hl, ha, hD, bt2, B2⟩
        refine ⟨(⟨#[]⟩ : Str), D, cs.map fun c => (⟨#[c]⟩ : Str), rfl, rfl, .inl (.of hD), ?_, ?_⟩
        · rw [sum_ones]
          show cs.length + (cs.map fun c => (⟨#[c]⟩ : Str)).length * 0 ≤ _
          omega
        · refine q H2 _ bt2 B2 ⟨?_, ?_⟩
          · rw [join_ones]; exact hl
          · rw [join_ones]; exact ha
def spGround : Sp := fun vs H Q _ => ∃ (b c : Addr) (m : Nat), vs = [.ref b, .int m] ∧ Bag H b c ∧ 2 ≤ m ∧ m ≤ 3 ∧
  ∀ (H' : Hp) (g n : Addr) (zs : List Str) (pl : Nat) (tb wd : Str), H g = none → H n = none → g ≠ n → But b H H' → Bag H' b c → zs.length ≤ m → Gnd H' g n zs pl tb wd → Q (.ref g) H'
theorem ok_ground {f fP fA fN fT fW : Addr} {fd fdP fdA fdN fdT fdW : FuncData} {k : Nat} (F : Fun K "_law_ground" "_law_ground" sGround f fd) (T : Pre K mg fP fA fdP fdA)
    (FN : Fun K "_law_names" "_law_names" sNames fN fdN) (bN : Binds K fdN ["_law_bag", "_law_many"] []) (gN : mg "_law_names" = some (.ref fN))
    (FT : Fun K "_law_table" "_law_table" sTable fT fdT) (bT : Binds K fdT ["_law_bag"] []) (gT : mg "_law_table" = some (.ref fT))
    (FW : Fun K "_law_bases_word" "_law_bases_word" sWord fW fdW) (bW : Binds K fdW ["_law_bag"] []) (gW : mg "_law_bases_word" = some (.ref fW)) : FnOk P w K mg base CX0 (k + 4) f fd ["_law_bag", "_law_most"] spGround := by
  have GN : FnOk P w K mg base CX0 (k + 3) fN fdN ["_law_bag", "_law_many"] spNames := ok_names FN T.FP T.bP T.gP T.FA T.bA T.gA T.ml T.mi T.mr
  have GT : FnOk P w K mg base CX0 (k + 3) fT fdT ["_law_bag"] spTable := ok_table FT T
  have GW : FnOk P w K mg base CX0 (k + 3) fW fdW ["_law_bag"] spWord := ok_word FW T
  refine F.ok scGround (fun vs H Q E h => ?_) (fun cdv A outer s H vs Q E hr h => ?_)
  · obtain ⟨b, c, m, rfl, _⟩ := h
    rfl
  · obtain ⟨b, c, m, rfl, B, m0, m1, q⟩ := h
    have hr1 : Room (k + 1) _ := hr.mono (by omega)
    refine ⟨_, pss_cons (ps_set (i := 2) scGround.nd rfl (.inl rfl) (pe_call GN hr (by rfl) gN FN.kp bN .nil pass0 (pa_cons (pv 0) (pa_cons (pe_op op_add pe_int (pe_call (T.okP k) hr1 (by rfl) T.gP T.FP.kp T.bP .nil pass0 (pa_cons (pv 0) (pa_cons (pe_op op_sub (pv 1) pe_int) pa_nil)))) pa_nil))))
      (pss_one (ps_ret (pe_tup (pa_cons (pe_callTy call_tuple_of (by rfl) T.mt (by decide +kernel) (pa_cons (pv 2) pa_nil))
        (pa_cons (pe_op op_add pe_int (pe_call (T.okP k) hr1 (by rfl) T.gP T.FP.kp T.bP .nil pass0 (pa_cons (pv 0) (pa_cons pe_int pa_nil))))
        (pa_cons (pe_call GT hr (by rfl) gT FT.kp bT .nil pass0 (pa_cons (pv 0) pa_nil))
        (pa_cons (pe_call GW hr (by rfl) gW FW.kp bW .nil pass0 (pa_cons (pv 0) pa_nil)) pa_nil))))))), ?_⟩
    refine ⟨.ref b, rfl, .ref b, rfl, .int m, rfl, _, _, rfl, rfl, b, c, _, rfl, B, by omega, by omega, fun r H1 r0 r1 bt1 B1 => ?_⟩
    have er : (2 + r : Int) = ((2 + r.toNat : Nat) : Int) := by omega
    refine ⟨_, _, rfl, rfl, b, c, 2 + r.toNat, congrArg (fun z => [V.ref b, V.int z]) er, B1, by omega, by omega, fun H2 l zs nl hl bt2 B2 zl zn zd => ?_⟩
    have lb := (B1.ne nl).1
    have nlH : H l = none := bt1.free nl lb
    -- tuple(names)
    refine ⟨.ref l, rfl, l, _, rfl, .inl ⟨.of hl, fun n nn => ?_⟩⟩
    obtain ⟨nb, nc⟩ := B2.ne nn
    have nnH : H n = none := (bt1.trans bt2).free nn nb
    have B3 := B2.upd (o := .tup (zs.map V.str)) nb nc
    have bt3 := (bt1.trans bt2).new (o := .tup (zs.map V.str)) nnH
    refine ⟨.ref b, rfl, b, c, 2, rfl, B3, by decide, by decide, fun pl H4 p0 p1 bt4 B4 => ?_⟩
    have n4 := bt4 _ _ upd_same nb
    refine ⟨_, _, rfl, rfl, .ref b, rfl, b, c, rfl, B4, fun H5 tb bt5 B5 ht => ?_⟩
    have n5 := bt5 _ _ n4 nb
    refine ⟨.ref b, rfl, b, c, rfl, B5, fun H6 wd bt6 B6 hw => ?_⟩
    have n6 := bt6 _ _ n5 nb
    refine ⟨by show 4 ≤ sizeLine; decide, fun g ng => ?_⟩
    obtain ⟨gb, gc⟩ := B6.ne ng
    have bt := ((bt3.trans bt4).trans bt5).trans bt6
    have ngH : H g = none := bt.free ng gb
    have gn : g ≠ n := (ne_of_none n6 ng).symm
    have ep : (1 + pl : Int) = ((1 + pl.toNat : Nat) : Int) := by omega
    refine q _ g n zs (1 + pl.toNat) tb wd ngH nnH gn (bt.new ngH) (B6.upd gb gc) (by omega) ⟨?_, ?_, by omega, by omega, zn, zd, by omega, by omega, ht, hw⟩
    · exact upd_same.trans (congrArg (fun z => some (HO.tup [V.ref n, V.int z, V.str tb, V.str wd])) ep)
    · rw [upd_ne gn.symm]; exact n6
end
end KT

namespace KT
open PySem PySem.Spec PyProof.Rows L2
/-! ### enumerate(v), one argument, v whatever begins -/
set_option maxHeartbeats 8000000 in
theorem enum1_new {v : Value} {o : Obj} {Hs : Heap → Prop} (B : Begins v o Hs) :
    Meets (Builtin.«enumerate.__new__» ⟨[.type "enumerate", v], []⟩) (fun _ R s => Hs s.heap ∧
      R (.ok (.ret (.ref (s.heap.push o).objs.size))) { s with heap := (s.heap.push o).push { cls := .type "enumerate", data := .fields #[.none, .bool false, .ref s.heap.objs.size, rawInt 0, .none, .none] } }) :=
  .of_wp fun P' w' A' R' s' hyp => by
    obtain ⟨hp, g, d, tk, os⟩ := s'; obtain ⟨hst, hR⟩ := hyp
    have hsub := sub_enumerate
    have beg : ∀ {Ar : Around} {Er : Value → Shared → Prop} {Qr : Value → Shared → Prop}, Qr (.ref hp.objs.size) ⟨hp.push o, g, d, tk, os⟩ → wpAny (model P' w') Ar (pyIter v) Qr Er ⟨hp, g, d, tk, os⟩ :=
      fun q => B.iter P' w' _ _ ⟨hp, g, d, tk, os⟩ _ hst q
    wp_walk using beg
    refine wpAny_stack_any fun st => wpAny_pure ?_
    split
    · rename_i cc _ _ _ _ _
      cases (cc == Value.type "enumerate")
      · wp_walk using beg
        exact ⟨_, rfl, hR⟩
      · wp_walk using beg
        exact ⟨_, rfl, hR⟩
    · wp_walk using beg
      exact ⟨_, rfl, hR⟩
section
variable {prog : Program} {w : World} {A : Around} {E : Value → Shared → Prop} {s : Shared}
theorem enum1_call {v : Value} {o : Obj} {Hs : Heap → Prop} {Q : Value → Shared → Prop} (B : Begins v o Hs) (hs : Hs s.heap)
    (q : ∀ hq, IsEnum hq (s.heap.objs.size + 1) s.heap.objs.size 0 .none → hq.get? s.heap.objs.size = some o → (∀ b u, s.heap.get? b = some u → hq.get? b = some u) → Q (.ref (s.heap.objs.size + 1)) { s with heap := hq }) :
    wpAny (model prog w) A (call (.type "enumerate") [v]) Q E s := by
  refine callType_new F.called_enumerate (by decide) (F.typeCall_enumerate_1 _) (F.newCall_enumerate_1 _) (fun ob => F.args_object_init_2 ob _) F.entry_enumerate_new (enum1_new B) ⟨hs, ?_⟩
  have sz : (s.heap.push o).objs.size = s.heap.objs.size + 1 := Heap.size_push ..
  show _ ∧ _
  rw [sz]
  have en : IsEnum ((s.heap.push o).push { cls := .type "enumerate", data := .fields #[.none, .bool false, .ref s.heap.objs.size, rawInt 0, .none, .none] }) (s.heap.objs.size + 1) s.heap.objs.size 0 .none := by
    have z := Heap.get?_push_size (s.heap.push o) (o := { cls := .type "enumerate", data := .fields #[.none, .bool false, .ref s.heap.objs.size, rawInt 0, .none, .none] }) rfl
    rw [sz] at z
    exact z
  exact ⟨⟨_, en, rfl⟩, q _ en (Heap.get?_push_of_some _ (Heap.get?_push_size _ B.free)) fun b u x => Heap.get?_push_of_some _ (Heap.get?_push_of_some _ x)⟩
end
/-! ### for i, x in enumerate(a tuple) -/
def Iet (K : PySem.W.Frag) (a : Addr) : It :=
  ⟨fun i H => ∃ (xs : List V) (x : V), SqT K H a xs ∧ xs[i]? = some x,
   fun i H v H' => ∃ T x, v = .ref T ∧ H T = none ∧ H' = upd H T (.tup [.int (i : Nat), x]) ∧ ∀ xs, SqT K H a xs → xs[i]? = some x,
   fun i H => ∃ xs : List V, SqT K H a xs ∧ xs.length = i⟩
theorem isTup_tuple {h : Heap} {a : Addr} {its : Array Value} (p : IsTup h a its) : h.IsTuple a its := p
theorem turn_iet {P : Program} {w : World} {K : PySem.W.Frag} {elts : List Expr} {kk : Nat} {tpos : Pos} (a e it : Addr) :
    Turn P w K (.Tuple elts kk tpos) (Iet K a) [e, it] e (fun i h => (∃ old, IsEnum h e it ((i : Nat) : Int) old) ∧ h.IsTupleIter it a i ∧ e ≠ it) where
  mem := by simp
  obj := fun i h st b hb => by
    obtain ⟨⟨old, en⟩, ⟨oi, gi, _, di⟩, _⟩ := st
    have cases2 : b = e ∨ b = it := by simpa using hb
    rcases cases2 with z | z
    · subst z
      exact ⟨_, en, fun v q => nomatch q⟩
    · subst z
      exact ⟨oi, gi, fun v q => by rw [di] at q; cases q⟩
  keep := fun i h h' st k => let ⟨⟨old, en⟩, hi, ne⟩ := st; ⟨⟨old, k e (by simp) _ en⟩, hi.at fun u q => k it (by simp) u q, ne⟩
  item := by
    intro X eP eW eK hc i pins s σ H E I hf st hg
    subst eP eW eK
    obtain ⟨⟨old, en⟩, hit, ne⟩ := st
    obtain ⟨xs, x, hq, hx⟩ := hg
    obtain ⟨its, rv, tp, hz⟩ := I.tuple hq
    obtain ⟨u0, hu, ru⟩ := rv.get hx
    have el : e < s.heap.objs.size := Heap.lt_size en
    have il : it < s.heap.objs.size := by obtain ⟨_, q, _⟩ := hit; exact Heap.lt_size q
    have tne : a ≠ it := fun z => by
      obtain ⟨o1, g1, c1, n1, d1⟩ := isTup_tuple tp
      obtain ⟨o2, g2, c2, d2⟩ := hit
      rw [z, g2] at g1
      cases g1
      rw [c2] at c1
      have c3 : Value.type "tuple_iterator" = Value.type "tuple" := c1
      exact absurd c3 (by decide)
    have ane : a ≠ e := fun z => by
      obtain ⟨o1, g1, c1, n1, d1⟩ := isTup_tuple tp
      rw [z] at g1
      have g2 : s.heap.get? e = _ := en
      rw [g2] at g1
      cases g1
      have c3 : Value.type "enumerate" = Value.type "tuple" := c1
      exact absurd c3 (by decide)
    have hi' : i < its.length := (List.getElem?_eq_some_iff.mp hu).1
    refine wpAny_pyNext_enum_itemD (Draws.tuple (A := X.A.in1) (I.ok.hd hc) it a tne its.toArray) en ⟨hit, isTup_tuple tp⟩ (by simpa using hi') ne (by simp [ne, Ne.symm ane]) fun u h1 tk hPx ho hit1 hT _ hk => ?_
    have eu : u = u0 := by
      have : its[i]? = some u := by simpa using hPx
      rw [hu] at this
      exact (Option.some.inj this).symm
    subst eu
    refine ⟨_, rfl, wpAny_letOwnedTupleGo_enum (s := { s with heap := h1, toks := tk + 1 }) ho fun h2 en2 sb => ?_⟩
    have gT : h2.get? s.heap.objs.size = some { cls := .type "tuple", data := .seq #[.int i tk, u] } := (sb.2 _ (Nat.ne_of_gt el)).trans hT
    have new : ObjOk X.prog X.w (upd H s.heap.objs.size (.tup [.int (i : Nat), x])) h2 s.heap.objs.size (.tup [.int (i : Nat), x]) :=
      ⟨by show 2 ≤ sizeLine; decide, [.int i tk, u], .cons ⟨_, rfl⟩ (.cons ru .nil), ⟨_, gT, rfl, _, rfl⟩⟩
    have I1 : Inv X pins σ (upd H s.heap.objs.size (.tup [.int (i : Nat), x])) { s with heap := h2, toks := tk + 1 } :=
      I.turnedNew (ch := [e, it]) (fun b ob hb q => (sb.2 b (fun z => hb (by simp [z]))).trans (hk b ob (fun z => hb (by simp [z])) (fun z => hb (by simp [z])) q)) hf (Nat.le_refl _) new
    refine ⟨.ref s.heap.objs.size, _, I1, rfl, ⟨_, x, rfl, I.hok.fresh (Nat.le_refl _), rfl, fun ys hy => by rw [I.tuple_inj hy hq]; exact hx⟩, ⟨⟨u, ?_⟩, hit1.1.at fun o q => (sb.2 it (Ne.symm ne)).trans q, ne⟩, fun b hb => ?_⟩
    · have e1 : ((i + 1 : Nat) : Int) = (i : Int) + 1 := by omega
      rw [e1]; exact en2
    · have bl : b < s.heap.objs.size := by
        have cases2 : b = e ∨ b = it := by simpa using hb
        rcases cases2 with z | z
        · rw [z]; exact el
        · rw [z]; exact il
      rw [upd_ne (Nat.ne_of_lt bl)]
      exact (hf b hb).1
  done := by
    intro X eP eW eK hc i pins s σ H E I hf st hg
    subst eP eW eK
    obtain ⟨⟨old, en⟩, hit, ne⟩ := st
    obtain ⟨xs, hq, hx⟩ := hg
    obtain ⟨its, rv, tp, hz⟩ := I.tuple hq
    obtain ⟨f0, f1, f2, f3, f4, f5⟩ := hf it (by simp)
    have hl := rv.length
    have tne : a ≠ it := fun z => by
      obtain ⟨o1, g1, c1, n1, d1⟩ := isTup_tuple tp
      obtain ⟨o2, g2, c2, d2⟩ := hit
      rw [z, g2] at g1
      cases g1
      rw [c2] at c1
      have c3 : Value.type "tuple_iterator" = Value.type "tuple" := c1
      exact absurd c3 (by decide)
    have ei : i = its.toArray.size := by simp; omega
    exact wpAny_pyNext_enum_endD (Draws.tuple (A := X.A.in1) (I.ok.hd hc) it a tne its.toArray) en (by rw [← ei]; exact ⟨hit, isTup_tuple tp⟩) fun h1 eb => ⟨rfl, I.turned (t' := s.toks) (fun b o hb q => eb b o hb q) f0 f1 f3 f4 f5⟩
  self := fun A i s Q E st h => let ⟨⟨_, en⟩, _⟩ := st; wpAny_pyIter_enum en h
theorem walk_iet {K : PySem.W.Frag} {a : Addr} {xs : List V} : Walk (Iet K a) xs.length (fun H => SqT K H a xs) (YPair (fun i => some (.int (i : Nat))) (fun i => xs[i]?)) := by
  refine ⟨fun i _ hi q => ⟨xs, xs[i], q, by simp [hi]⟩, fun _ q => ⟨xs, q, rfl⟩, fun i H v H' _ q y => ?_⟩
  obtain ⟨T, x, y1, y2, y3, y4⟩ := y
  exact ⟨T, .int (i : Nat), x, y1, y2, y3, rfl, y4 xs q⟩
def tEnT (K : PySem.W.Frag) (ta : TA) : TI := fun σ H R => ta σ H fun vs H1 => ∃ a xs, vs = [.ref a] ∧ SqT K H1 a xs ∧ R (Iet K a) H1
theorem pi_enT {X : Cx} {e : Expr} {ta : TA} {p pos tpos : Pos} {elts : List Expr} {kk : Nat} (hg : Gl X "enumerate") (hm : X.mg "enumerate" = none) (ha : PA X [e] ta) (hs : starEach [e] X.env = [(false, eval e X.env)] := by rfl) :
    PI X (.Tuple elts kk tpos) (.Call (.Name "enumerate" p) [e] [] pos) (tEnT X.K ta) := by
  refine ⟨fun pins s σ H R I h => ?_⟩
  refine Call_ (ld_blt I hg hm boot_enumerate (PyProof.Rows.callWith_type1 (thn (ha.run pos pins s σ H _ I h) fun us s1 ⟨vs, H1, I1, r1, q1⟩ => ?_) hs rfl))
  obtain ⟨a, xs, ev, hq, q⟩ := q1
  subst ev
  obtain ⟨u, eu, ru⟩ := vals1 r1
  subst eu
  cases ru
  obtain ⟨its, rv, tp, hz⟩ := I1.tuple hq
  refine enum1_call (begins_tuple a its.toArray) (isTup_tuple tp) fun hq2 en git kp => wpAny_pyIter_enum en ?_
  have I2 : Inv X pins σ H1 { s1 with heap := hq2 } := I1.kept (t' := s1.toks) kp
  refine ⟨s1.heap.objs.size + 1, [s1.heap.objs.size + 1, s1.heap.objs.size], _, _, H1, rfl, I2, turn_iet a (s1.heap.objs.size + 1) s1.heap.objs.size, ⟨⟨.none, en⟩, ⟨_, git, rfl, rfl⟩, Nat.succ_ne_self _⟩, fun b hb => ?_, q⟩
  have cases2 : b = s1.heap.objs.size + 1 ∨ b = s1.heap.objs.size := by simpa using hb
  have ge : s1.heap.objs.size ≤ b := by
    rcases cases2 with z | z
    · rw [z]; exact Nat.le_succ _
    · rw [z]; exact Nat.le_refl _
  exact I1.fpOk ge (I1.hok.fresh ge)
end KT

namespace KT
open PySem PySem.Spec PyProof.Rows L2
abbrev sNum : Stmt := top 12
abbrev sIsName : Stmt := top 20
abbrev sCheck : Stmt := top 22
abbrev sIsTab : Stmt := top 23
theorem scNum : FnScope ["value"] ["value"] (defScope sNum) := ⟨rfl, rfl, rfl, by decide +kernel, rfl, by decide +kernel, by decide +kernel⟩
theorem scIsName : FnScope ["value", "letter"] ["value"] (defScope sIsName) := ⟨rfl, rfl, rfl, by decide +kernel, rfl, by decide +kernel, by decide +kernel⟩
theorem scIsTab : FnScope ["value", "digit"] ["value"] (defScope sIsTab) := ⟨rfl, rfl, rfl, by decide +kernel, rfl, by decide +kernel, by decide +kernel⟩
/-- built-in names that the program does not shadow -/
structure Blt (mg : Str → Option Value) : Prop where
  mint : mg "int" = none
  mbool : mg "bool" = none
  mstr : mg "str" = none
  misi : mg "isinstance" = none
  mlen : mg "len" = none
  mall : mg "all" = none
  mrange : mg "range" = none
  mtuple : mg "tuple" = none
  menum : mg "enumerate" = none
section
variable {P : Program} {w : World} {K : PySem.W.Frag} {mg : Str → Option Value} {base : Heap}
def spNum : Sp := fun vs H Q _ => ∃ i : Int, vs = [.int i] ∧ Q (.bl true) H
theorem ok_num {f : Addr} {fd : FuncData} {k : Nat} (F : Fun K "is_number" "is_number" sNum f fd) (T : Blt mg) : FnOk P w K mg base CX0 (k + 1) f fd ["value"] spNum := by
  refine F.ok scNum (fun vs H Q E h => ?_) (fun cdv A outer s H vs Q E hr h => ?_)
  · obtain ⟨i, rfl, _⟩ := h
    rfl
  · obtain ⟨i, rfl, q⟩ := h
    refine ⟨_, pss_one (ps_ret (pe_and (pe_callB call_isi (by rfl) T.misi (by decide +kernel) (pa_cons (pv 0) (pa_cons (pe_bltn (v := .ty "int") (by rfl) T.mint (by decide +kernel) rfl) pa_nil)))
      (pe_one (pe_not (pe_callB call_isi (by rfl) T.misi (by decide +kernel) (pa_cons (pv 0) (pa_cons (pe_bltn (v := .ty "bool") (by rfl) T.mbool (by decide +kernel) rfl) pa_nil))))))), ?_⟩
    refine ⟨.int i, rfl, .int i, .ty "int", _, _, true, rfl, .ty "int", .base (.int i), kit_ty (by decide +kernel), true, rfl, iteT ?_⟩
    exact ⟨.int i, rfl, .int i, .ty "bool", _, _, false, rfl, .ty "bool", .base (.int i), kit_ty (by decide +kernel), false, rfl, q⟩
def spIsName : Sp := fun vs H Q _ => ∃ z : Str, vs = [.str z] ∧ NameS z ∧ ∀ H', Same H H' → Q (.bl true) H'
theorem ok_isname {f : Addr} {fd : FuncData} {k : Nat} (F : Fun K "is_name" "is_name" sIsName f fd) (T : Blt mg) : FnOk P w K mg base CX0 (k + 1) f fd ["value"] spIsName := by
  refine F.ok scIsName (fun vs H Q E h => ?_) (fun cdv A outer s H vs Q E hr h => ?_)
  · obtain ⟨i, rfl, _⟩ := h
    rfl
  · obtain ⟨z, rfl, N, q⟩ := h
    refine ⟨_, pss_cons (ps_if (PW.pt (pw_or (pt_not (pt_val (pe_callB call_isi (by rfl) T.misi (by decide +kernel) (pa_cons (pv 0) (pa_cons (pe_bltn (v := .ty "str") (by rfl) T.mstr (by decide +kernel) rfl) pa_nil)))))
        (pw_or1 (pt_not (pt_chain op_le op_le pe_int (pe_callB call_len_str (by rfl) T.mlen PySem.boot_len (pa_cons (pv 0) pa_nil)) pe_int))))) (pss_one (ps_ret pe_bl)) pss_nil)
      (pss_one (ps_ret (pe_callB (cr_all rfl) (by rfl) T.mall (by decide +kernel) (pa_cons (pe_lc (own := [("letter", 1)]) (g := gName 1) (tt := tYes) rfl scIsName.nd
          (pi_str (pv 0)) (blkOk_by (N := ["value", "letter"]) (sc := defScope sIsName) (by decide +kernel))
          (fun _ _ _ _ _ => pg_name (i := 1) scIsName.nd rfl (Or.inl rfl)) (fun _ _ _ _ _ => pts_nil)
          (fun _ _ _ _ _ => pe_chain op_le_str op_le_str pe_str (pv 1) pe_str)) pa_nil)))), ?_⟩
    have h1 := N.lo
    have h2 := N.hi
    have zl : z.length ≤ sizeLine := Nat.le_of_lt (small1000 (by omega))
    have hl : (decide ((1 : Int) ≤ (z.length : Int))) = true := decide_eq_true (by omega)
    have hl2 : (decide ((z.length : Int) ≤ 8)) = true := decide_eq_true (by omega)
    refine ⟨.str z, rfl, .str z, .ty "str", _, _, true, rfl, .ty "str", .base (.str z), kit_ty (by decide +kernel), true, rfl, iteF ?_⟩
    refine ⟨.str z, rfl, _, rfl, zl, _, _, rfl, rfl, true, congrArg V.bl hl, iteT ?_⟩
    refine ⟨_, _, rfl, rfl, true, congrArg V.bl hl2, iteF ?_⟩
    -- all letters
    refine ⟨.str z, rfl, z, rfl, fun D nD => ?_⟩
    refine lc_it walk_str (fun i H2 => Same H H2 ∧ H2 D = some (.lst ((List.replicate i true).map V.bl))) ⟨same_upd nD, upd_same⟩ (fun _ _ _ _ => trivial) ?_ ?_
    · rintro i x H2 H' hi ⟨s2, hD⟩ ⟨rfl, c, hc, rfl⟩
      have hm : c ∈ z.cps.toList := by
        have := List.mem_of_getElem? (l := z.cps.toList) (i := i) (a := c) (by simpa using hc)
        exact this
      have lc := N.al c hm
      unfold LC at lc
      have c1 : (!decide ((⟨#[c]⟩ : Str).cps.toList < ("a" : Str).cps.toList)) = true := by
        have e : ("a" : Str).cps.toList = [97] := by decide +kernel
        rw [e]
        have : ¬ ([c] < [97]) := by
          simp [List.cons_lt_cons_iff]
          omega
        simp [this]
      have c2 : (!decide (("z" : Str).cps.toList < (⟨#[c]⟩ : Str).cps.toList)) = true := by
        have e : ("z" : Str).cps.toList = [122] := by decide +kernel
        rw [e]
        have : ¬ ([122] < [c]) := by
          simp [List.cons_lt_cons_iff]
          omega
        simp [this]
      refine ⟨rfl, .str ⟨#[c]⟩, rfl, _, _, rfl, rfl, true, congrArg V.bl c1, iteT ?_⟩
      refine ⟨_, _, rfl, rfl, _, hD, ?_, ?_, ?_⟩
      · rw [List.length_map, List.length_replicate]
        have e : z.cps.size = z.length := rfl
        exact small1000 (by omega)
      · exact fun a o e => by
          have na : a ≠ D := ne_of_none e nD
          rw [upd_ne na]
          exact s2 a o e
      · rw [upd_same]
        have e : (V.bl (!decide (("z" : Str).cps.toList < (⟨#[c]⟩ : Str).cps.toList))) = V.bl true := congrArg V.bl c2
        show some (HO.lst (_ ++ [V.bl (!decide (("z" : Str).cps.toList < (⟨#[c]⟩ : Str).cps.toList))])) = _
        rw [e, List.replicate_succ', List.map_append]
        rfl
    · rintro H2 ⟨s2, hD⟩
      refine ⟨D, List.replicate z.cps.size true, rfl, .of hD, ?_⟩
      have e : (List.replicate z.cps.size true).all id = true := by simp
      rw [e]
      exact q H2 s2
def spIsTab : Sp := fun vs H Q _ => ∃ z : Str, vs = [.str z] ∧ Tab z ∧ ∀ H', Same H H' → Q (.bl true) H'
theorem ok_istab {f : Addr} {fd : FuncData} {k : Nat} (F : Fun K "_is_table" "_is_table" sIsTab f fd) (T : Blt mg) : FnOk P w K mg base CX0 (k + 1) f fd ["value"] spIsTab := by
  refine F.ok scIsTab (fun vs H Q E h => ?_) (fun cdv A outer s H vs Q E hr h => ?_)
  · obtain ⟨i, rfl, _⟩ := h
    rfl
  · obtain ⟨z, rfl, N, q⟩ := h
    refine ⟨_, pss_one (ps_ret (pe_and (pe_callB call_isi (by rfl) T.misi (by decide +kernel) (pa_cons (pv 0) (pa_cons (pe_bltn (v := .ty "str") (by rfl) T.mstr (by decide +kernel) rfl) pa_nil)))
      (pe_and (pe_cmpR op_eq (pe_callB call_len_str (by rfl) T.mlen PySem.boot_len (pa_cons (pv 0) pa_nil)) pe_int (nomark _))
      (pe_one (pe_callB (cr_all rfl) (by rfl) T.mall (by decide +kernel) (pa_cons (pe_lc (own := [("digit", 1)]) (g := gName 1) (tt := tYes) rfl scIsTab.nd
          (pi_str (pv 0)) (blkOk_by (N := ["value", "digit"]) (sc := defScope sIsTab) (by decide +kernel))
          (fun _ _ _ _ _ => pg_name (i := 1) scIsTab.nd rfl (Or.inl rfl)) (fun _ _ _ _ _ => pts_nil)
          (fun _ _ _ _ _ => pe_cmpR op_in_sign (pv 1) pe_str (by rfl))) pa_nil)))))), ?_⟩
    have l4 : z.length = 4 := by rw [len_codes]; exact N.len
    have zl : z.length ≤ sizeLine := Nat.le_of_lt (small1000 (by omega))
    refine ⟨.str z, rfl, .str z, .ty "str", _, _, true, rfl, .ty "str", .base (.str z), kit_ty (by decide +kernel), true, rfl, iteT ?_⟩
    refine ⟨.str z, rfl, _, rfl, zl, rfl, true, ?_, iteT ?_⟩
    · rw [l4]
      rfl
    refine ⟨.str z, rfl, z, rfl, fun D nD => ?_⟩
    refine lc_it walk_str (fun i H2 => Same H H2 ∧ H2 D = some (.lst ((List.replicate i true).map V.bl))) ⟨same_upd nD, upd_same⟩ (fun _ _ _ _ => trivial) ?_ ?_
    · rintro i x H2 H' hi ⟨s2, hD⟩ ⟨rfl, c, hc, rfl⟩
      have hm : c ∈ z.cps.toList := List.mem_of_getElem? (l := z.cps.toList) (i := i) (a := c) (by simpa using hc)
      have hd := N.dig c hm
      have c1 : decide (c ∈ ("01" : Str).cps.toList) = true := by
        have e : ("01" : Str).cps.toList = [48, 49] := by decide +kernel
        rw [e]
        rcases hd with rfl | rfl <;> decide
      refine ⟨rfl, .str ⟨#[c]⟩, rfl, c, "01", rfl, rfl, _, hD, ?_, ?_, ?_⟩
      · rw [List.length_map, List.length_replicate]
        have e : z.cps.size = z.length := rfl
        exact small1000 (by omega)
      · exact fun a o e => by
          have na : a ≠ D := ne_of_none e nD
          rw [upd_ne na]
          exact s2 a o e
      · rw [upd_same, c1, List.replicate_succ', List.map_append]
        rfl
    · rintro H2 ⟨s2, hD⟩
      refine ⟨D, List.replicate z.cps.size true, rfl, .of hD, ?_⟩
      have e : (List.replicate z.cps.size true).all id = true := by simp
      rw [e]
      exact q H2 s2
end
end KT

namespace KT
open PySem PySem.Spec PyProof.Rows L2
theorem scCheck : FnScope ["branches", "branch", "at"] ["branches"] (defScope sCheck) := ⟨rfl, rfl, rfl, by decide +kernel, rfl, by decide +kernel, by decide +kernel⟩
theorem flat_strs (zs : List Str) : (zs.map V.str).all flatV = true := by
  simp [flatV]
theorem inV_strs (z : Str) (zs : List Str) : inV (.str z) (zs.map V.str) = decide (z ∈ zs) := by
  unfold inV
  rw [List.any_map]
  induction zs with
  | nil => rfl
  | cons a r ih =>
    simp only [List.any_cons, Function.comp_apply]
    rw [show (fun y => eqV y (V.str z)) ∘ V.str = fun y => eqV (V.str y) (V.str z) from rfl] at ih
    rw [show (r.any ((fun y => eqV y (V.str z)) ∘ V.str)) = decide (z ∈ r) from ih]
    show ((a == z) || decide (z ∈ r)) = _
    by_cases h : a = z
    · subst h; simp
    · have h' : ¬ z = a := fun q => h q.symm
      simp [h, h']
section
variable {P : Program} {w : World} {K : PySem.W.Frag} {mg : Str → Option Value} {base : Heap}
def spCheck (K : PySem.W.Frag) : Sp := fun vs H Q _ => ∃ (p : Addr) (zs : List Str), vs = [.ref p] ∧ H p = some (.tup (zs.map V.str)) ∧ 2 ≤ zs.length ∧ zs.length ≤ 3 ∧ (∀ z ∈ zs, NameS z) ∧ zs.Nodup ∧ ∀ H', Same H H' → Q .non H'
theorem ok_check {f fI : Addr} {fd fdI : FuncData} {k : Nat} (F : Fun K "_check_branches" "_check_branches" sCheck f fd) (T : Blt mg) (FI : Fun K "is_name" "is_name" sIsName fI fdI) (bI : Binds K fdI ["value"] []) (gI : mg "is_name" = some (.ref fI)) :
    FnOk P w K mg base CX0 (k + 2) f fd ["branches"] (spCheck K) := by
  have GI : FnOk P w K mg base CX0 (k + 1) fI fdI ["value"] spIsName := ok_isname FI T
  refine F.ok scCheck (fun vs H Q E h => ?_) (fun cdv A outer s H vs Q E hr h => ?_)
  · obtain ⟨i, zs, rfl, _⟩ := h
    rfl
  · obtain ⟨p, zs, rfl, hp, l2, l3, nm, nd, q⟩ := h
    refine ⟨_, pss_cons (ps_if (pt_cmpR op_notIn_seq (pe_callB call_len_seq (by rfl) T.mlen PySem.boot_len (pa_cons (pv 0) pa_nil)) (pe_tup (pa_cons pe_int (pa_cons pe_int pa_nil))) (by rfl)) (pss_one ps_never) pss_nil)
      (pss_cons (ps_for PassesOwn.never rfl (pi_tup (pv 0)) (pg_name (i := 1) scCheck.nd rfl (.inl rfl))
        (pss_one (ps_if (pt_not (pt_val (pe_call GI hr (by rfl) gI FI.kp bI .nil pass0 (pa_cons (pv 1) pa_nil)))) (pss_one ps_never) pss_nil)))
      (pss_one (ps_for PassesOwn.never rfl (pi_enT rfl T.menum (pa_cons (pv 0) pa_nil)) (pg_tup rfl (pgs_cons (pg_name (i := 2) scCheck.nd rfl (.inl rfl)) (pgs_cons (pg_name (i := 1) scCheck.nd rfl (.inl rfl)) pgs_nil)))
        (pss_one (ps_if (pt_cmpR op_in_seq (pv 1) (pe_slice sl_tup (pv 0) po_none (po_some (pv 2))) (by rfl)) (pss_one ps_never) pss_nil))))), ?_⟩
    -- the number of branches
    have len2 : (zs.map V.str).length = zs.length := List.length_map _
    refine ⟨.ref p, rfl, p, _, rfl, .inr (.of hp), by show 2 ≤ sizeLine; decide, fun t nt => ⟨t, _, rfl, .inr (.of upd_same), rfl, rfl, false, ?_, iteF ?_⟩⟩
    · rw [len2]
      have : zs.length = 2 ∨ zs.length = 3 := by omega
      rcases this with e | e <;> rw [e] <;> rfl
    have s1 := same_upd (o := .tup [V.int 2, V.int 3]) nt
    have hp1 := s1 _ _ hp
    -- each is a name
    refine ⟨_, rfl, p, rfl, ⟨_, .of hp1⟩, for_tup (K := K) (a := p) (xs := zs.map V.str) (fun i σ H2 => ∃ y, σ = [some (.ref p), y, none] ∧ Same H H2) ⟨none, rfl, s1⟩ (fun i σ H2 _ ⟨_, _, s2⟩ => .of (s2 _ _ hp)) ?_ ?_⟩
    · rintro i x σ H2 hi ⟨y, rfl, s2⟩
      obtain ⟨z, hz, rfl⟩ : ∃ z, zs[i]? = some z ∧ x = V.str z := by
        rw [List.getElem?_map] at hi
        cases e : zs[i]? with
        | none => rw [e] at hi; cases hi
        | some z => rw [e] at hi; exact ⟨z, rfl, (Option.some.inj hi).symm⟩
      refine ⟨.str z, rfl, z, rfl, nm z (List.mem_of_getElem? hz), fun H3 s3 => ⟨true, rfl, iteF ?_⟩⟩
      exact ⟨_, rfl, s2.trans s3⟩
    · rintro σ H2 ⟨y, rfl, s2⟩
      -- no two alike
      refine ⟨.ref p, rfl, p, _, rfl, .of (s2 _ _ hp), for_it walk_iet (fun i σ H2 => ∃ y2 y3, σ = [some (.ref p), y2, y3] ∧ Same H H2) ⟨_, _, rfl, s2⟩ (fun i σ H2 _ ⟨_, _, _, s3⟩ => .of (s3 _ _ hp)) ?_ ?_⟩
      · rintro i x σ H3 H3' hi ⟨y2, y3, rfl, s3⟩ ⟨T', x1, x2, rfl, nT, rfl, e1, e2⟩
        obtain rfl := Option.some.inj e1
        obtain ⟨z, hz, rfl⟩ : ∃ z, zs[i]? = some z ∧ x2 = V.str z := by
          have e2 : (zs.map V.str)[i]? = some x2 := e2
          rw [List.getElem?_map] at e2
          cases e : zs[i]? with
          | none => rw [e] at e2; cases e2
          | some z => rw [e] at e2; exact ⟨z, rfl, (Option.some.inj e2).symm⟩
        have s4 := s3.trans (same_upd (o := .tup [V.int i, V.str z]) nT)
        refine ⟨T', _, rfl, .of upd_same, rfl, .int i, _, rfl, .str z, _, rfl, rfl, ?_⟩
        have hi2 : i < zs.length := by simpa using hi
        refine ⟨.str z, rfl, .ref p, rfl, .int i, rfl, i, rfl, p, _, rfl, .of (s4 _ _ hp), ?_, fun c nc => ?_⟩
        · rintro ⟨_, e⟩
          rw [show HT.sIx (zs.map V.str).length (zs.map V.str).length (some (i : Int)) = min i (zs.map V.str).length from HT.sIx_nat _ _ i] at e
          rw [List.length_map] at e
          omega
        · have ec : cutV (zs.map V.str) none (some (i : Int)) = (zs.take i).map V.str := by
            unfold cutV
            rw [show HT.sIx (zs.map V.str).length (zs.map V.str).length (some (i : Int)) = min i (zs.map V.str).length from HT.sIx_nat _ _ i, HT.sIx_none]
            rw [List.length_map, Nat.sub_zero, List.drop_zero, Nat.min_eq_left (Nat.le_of_lt hi2), List.map_take]
          rw [ec] at *
          refine ⟨c, _, rfl, .inr (.of upd_same), rfl, flat_strs _, false, ?_, iteF ?_⟩
          · show V.bl (inV (.str z) ((zs.take i).map V.str)) = V.bl false
            rw [inV_strs]
            have : z ∉ zs.take i := fun hm => by
              obtain ⟨j, hj⟩ := List.mem_iff_getElem?.mp hm
              rw [List.getElem?_take] at hj
              split at hj
              · rename_i hji
                have a := List.pairwise_iff_getElem.mp nd j i (by omega) hi2 hji
                have ej : zs[j]? = some zs[j] := List.getElem?_eq_getElem (by omega)
                have ei : zs[i]? = some zs[i] := List.getElem?_eq_getElem hi2
                rw [ej] at hj
                rw [ei] at hz
                exact a ((Option.some.inj hj).trans (Option.some.inj hz).symm)
              · cases hj
            simp [this]
          · exact ⟨_, _, rfl, s4.trans (same_upd nc)⟩
      · rintro σ H3 ⟨y2, y3, rfl, s3⟩
        exact q H3 s3
end
end KT

namespace KT
open PySem PySem.Spec PyProof.Rows L2
abbrev sInit : Stmt := inClass (top 21) 2
abbrev sMerged : Stmt := inClass (top 21) 10
abbrev sStands : Stmt := inClass (top 21) 13
theorem scInit : FnScope ["self", "places", "table", "bases", "branches"] ((["self", "places", "table", "bases"] : List Str) ++ (["branches"] : List Str)) (defScope sInit) := ⟨rfl, rfl, rfl, by decide +kernel, rfl, by decide +kernel, by decide +kernel⟩
def kwA (a b c : Value) : List (Str × Value) := (["places", "table", "bases"] : List Str).zip [a, b, c]
def kwB (a b c : Value) : List (Str × Value) := (["bases", "table", "places"] : List Str).zip [c, b, a]
theorem bindA (kV doc pm : Value) (an : Option Addr) (cdv ct u a b c : Value) (us : List Value) (h : us.length = 2 ∨ us.length = 3) :
    bindArgs (PySem.W.fnOf "__init__" "Shape.__init__" (defArgs sInit) (defBody sInit) (defScope sInit) .none kV doc pm an cdv ct) ⟨u :: us, kwA a b c⟩ = (newTuple us >>= fun t => pure ((["self", "places", "table", "bases"] : List Str).zip [u, a, b, c] ++ [(("branches" : Str), t)])) := by
  match us, h with
  | [x, y], _ => rfl
  | [x, y, z], _ => rfl
theorem bindB (kV doc pm : Value) (an : Option Addr) (cdv ct u a b c : Value) (us : List Value) (h : us.length = 2 ∨ us.length = 3) :
    bindArgs (PySem.W.fnOf "__init__" "Shape.__init__" (defArgs sInit) (defBody sInit) (defScope sInit) .none kV doc pm an cdv ct) ⟨u :: us, kwB a b c⟩ = (newTuple us >>= fun t => pure ((["self", "places", "table", "bases"] : List Str).zip [u, a, b, c] ++ [(("branches" : Str), t)])) := by
  match us, h with
  | [x, y], _ => rfl
  | [x, y, z], _ => rfl
theorem sum_le8 : ∀ {ys : List Str}, (∀ z ∈ ys, z.length ≤ 8) → (ys.map (·.length)).sum ≤ 8 * ys.length
  | [], _ => Nat.zero_le _
  | y :: r, h => by
    have a := h y List.mem_cons_self
    have b := sum_le8 (ys := r) fun z hz => h z (List.mem_cons_of_mem _ hz)
    rw [List.map_cons, List.sum_cons, List.length_cons]
    omega
theorem bases_len : ∀ z ∈ basesL, z.length ≤ 8 := by decide +kernel
/-! ### the object -/
def txtOf (zs : List Str) (pl : Nat) (tb wd : Str) : Str := Txt.join " " ((("shape" : Str) :: zs) ++ ([Str.ofString (toString (pl : Int)), tb, wd] : List Str))
def sflds (p : Addr) (pl : Nat) (tb wd t : Str) : List (Str × V) := putF "_text" (.str t) (putF "_bases" (.str wd) (putF "_table" (.str tb) (putF "_places" (.int pl) (putF "_branches" (.ref p) []))))
/-- what the class and the built-ins are -/
structure ShT (K : PySem.W.Frag) (mg : Str → Option Value) (C : Addr) (mc : Value) (aB : Addr) : Prop where
  cl : Cls K C
  n1 : NoAttr K C "_branches"
  n2 : NoAttr K C "_places"
  n3 : NoAttr K C "_table"
  n4 : NoAttr K C "_bases"
  n5 : NoAttr K C "_text"
  mgC : mg "Shape" = some (.ref C)
  rd : ClX.CRead K C mc
  cB : ClX.CVal K C mc "BASES" (.ref aB) (.ref aB)
  tB : ∀ H, SqT K H aB (basesL.map V.str)
section
variable {P : Program} {w : World} {K : PySem.W.Frag} {mg : Str → Option Value} {base : Heap} {C aB : Addr} {mc : Value}
def spInit (C : Addr) : Sp := fun vs H Q _ => ∃ (x dx p : Addr) (zs : List Str) (pl : Nat) (tb wd : Str), vs = [.ref x, .int pl, .str tb, .str wd, .ref p] ∧ H x = some (.ins C dx []) ∧ H p = some (.tup (zs.map V.str)) ∧
  2 ≤ zs.length ∧ zs.length ≤ 3 ∧ (∀ z ∈ zs, NameS z) ∧ zs.Nodup ∧ 1 ≤ pl ∧ pl ≤ 2 ∧ Tab tb ∧ wd ∈ basesL ∧
  ∀ H', (∀ a o, H a = some o → a ≠ x → H' a = some o) → H' x = some (.ins C dx (sflds p pl tb wd (txtOf zs pl tb wd))) → Q .non H'
theorem body_init {fK fN fT : Addr} {fdK fdN fdT : FuncData} {k : Nat} (T : Blt mg) (S : ShT K mg C mc aB)
    (GK : FnOk P w K mg base CX0 (k + 2) fK fdK ["branches"] (spCheck K)) (kK : PySem.W.keepIn K (.ref fK) = true) (bK : Binds K fdK ["branches"] []) (gK : mg "_check_branches" = some (.ref fK))
    (GN : FnOk P w K mg base CX0 (k + 1) fN fdN ["value"] spNum) (kN : PySem.W.keepIn K (.ref fN) = true) (bN : Binds K fdN ["value"] []) (gN : mg "is_number" = some (.ref fN))
    (GT : FnOk P w K mg base CX0 (k + 1) fT fdT ["value"] spIsTab) (kT : PySem.W.keepIn K (.ref fT) = true) (bT : Binds K fdT ["value"] []) (gT : mg "_is_table" = some (.ref fT))
    {f : Addr} (cdv : Value) (A : Around) (outer : List Env) (s : Shared) (H : Hp) (vs : List V) (Q : VK) (E : XK) (hr : Room (k + 2) (A.deeper (envOfC "Shape.__init__" (defScope sInit) s.heap.objs.size f cdv))) (h : spInit C vs H Q E) :
    ∃ t, PSs (cxOf CX0 P w K mg base ["self", "places", "table", "bases", "branches"] "Shape.__init__" (defScope sInit) f cdv A outer s H E).nox (defBody sInit) t ∧ t { nx := fun _ H' => Q .non H', rt := Q } (start ["self", "places", "table", "bases", "branches"] vs) H := by
  obtain ⟨x, dx, p, zs, pl, tb, wd, rfl, hx, hp, l2, l3, nm, nd, p1, p2, ht, hw, q⟩ := h
  have hr1 : Room (k + 1) _ := hr.mono (Nat.le_succ _)
  have ndN := scInit.nd
  refine ⟨_, pss_cons (ps_expr (pe_call GK hr (by rfl) gK kK bK .nil pass0 (pa_cons (pv 4) pa_nil)))
    (pss_cons (ps_if (PW.pt (pw_or (pt_not (pt_val (pe_call GN hr1 (by rfl) gN kN bN .nil pass0 (pa_cons (pv 1) pa_nil)))) (pw_or1 (pt_cmpR op_notIn_seq (pv 1) (pe_tup (pa_cons pe_int (pa_cons pe_int pa_nil))) (by rfl))))) (pss_one ps_never) pss_nil)
    (pss_cons (ps_if (pt_not (pt_val (pe_call GT hr1 (by rfl) gT kT bT .nil pass0 (pa_cons (pv 2) pa_nil)))) (pss_one ps_never) pss_nil)
    (pss_cons (ps_if (pt_cmpR op_notIn_seq (pv 3) (ClX.pe_cval (pe_glob (v := .ref C) (by rfl) S.mgC rfl)) (by rfl)) (pss_one ps_never) pss_nil)
    (pss_cons (ps_fld (pv 0) (pv 4) rfl)
    (pss_cons (ps_fld (pv 0) (pv 1) rfl)
    (pss_cons (ps_fld (pv 0) (pv 2) rfl)
    (pss_cons (ps_fld (pv 0) (pv 3) rfl)
    (pss_one (ps_fld (pv 0) (pe_join pe_str (pe_lst (pa_cons pe_str (StX.pa_star (pv 4) (pa_cons (pe_callTy call_str_int (by rfl) T.mstr (by decide +kernel) (pa_cons (pv 1) pa_nil)) (pa_cons (pv 2) (pa_cons (pv 3) pa_nil))))))) rfl))))))))), ?_⟩
  -- the three checks
  refine ⟨.ref p, rfl, p, zs, rfl, hp, l2, l3, nm, nd, fun H1 s1 => ?_⟩
  refine ⟨.int pl, rfl, pl, rfl, true, rfl, iteF ?_⟩
  refine ⟨.int pl, rfl, by show 2 ≤ sizeLine; decide, fun t nt => ⟨t, _, rfl, .inr (.of upd_same), rfl, rfl, false, ?_, iteF ?_⟩⟩
  · have : pl = 1 ∨ pl = 2 := by omega
    rcases this with rfl | rfl <;> rfl
  have s2 := s1.trans (same_upd (o := .tup [V.int 1, V.int 2]) nt)
  refine ⟨.str tb, rfl, tb, rfl, ht, fun H3 s3 => ⟨true, rfl, iteF ?_⟩⟩
  refine ⟨.str wd, rfl, C, mc, .ref aB, .ref aB, rfl, S.rd, S.cB, aB, _, rfl, .inr (S.tB _), rfl, flat_strs _, false, ?_, iteF ?_⟩
  · show V.bl (!inV (.str wd) (basesL.map V.str)) = V.bl false
    rw [inV_strs, decide_eq_true hw]
    rfl
  -- the five fields
  have s4 := s2.trans s3
  have hx4 := s4 _ _ hx
  have xp : x ≠ p := ne_of hx hp (by intro z; cases z)
  refine ⟨.ref p, rfl, .ref x, rfl, x, C, dx, _, rfl, hx4, S.cl, S.n1, by show 0 < 1000; decide, ?_⟩
  refine ⟨.int pl, rfl, .ref x, rfl, x, C, dx, _, rfl, upd_same, S.cl, S.n2, by show 1 < 1000; decide, ?_⟩
  have g1 := length_putF ("_branches" : Str) (V.ref p) []
  have g2 := length_putF ("_places" : Str) (V.int pl) (putF "_branches" (V.ref p) [])
  have g3 := length_putF ("_table" : Str) (V.str tb) (putF "_places" (V.int pl) (putF "_branches" (V.ref p) []))
  have g4 := length_putF ("_bases" : Str) (V.str wd) (putF "_table" (V.str tb) (putF "_places" (V.int pl) (putF "_branches" (V.ref p) [])))
  simp only [List.length_nil] at g1
  refine ⟨.str tb, rfl, .ref x, rfl, x, C, dx, _, rfl, upd_same, S.cl, S.n3, by omega, ?_⟩
  refine ⟨.str wd, rfl, .ref x, rfl, x, C, dx, _, rfl, upd_same, S.cl, S.n4, by omega, ?_⟩
  have hp4 : ∀ o, (upd (upd H3 x o) x o) p = (upd H3 x o) p := fun o => by rw [upd_upd]
  -- the text
  refine ⟨⟨_, rfl⟩, .ref p, rfl, p, zs.map V.str, rfl, .inl (.of ?_), .int pl, rfl, pl, rfl, ?_, .str tb, rfl, .str wd, rfl, ?_, fun l nl => ?_⟩
  · rw [upd_ne xp.symm, upd_ne xp.symm, upd_ne xp.symm, upd_ne xp.symm]
    exact s4 _ _ hp
  · have : pl = 1 ∨ pl = 2 := by omega
    rcases this with rfl | rfl <;> decide +kernel
  · simp only [List.length_cons, List.length_append, List.length_map, List.length_nil]
    exact Nat.le_of_lt (small1000 (by omega))
  · refine ⟨" ", l, ((("shape" : Str) :: zs) ++ ([Str.ofString (toString (pl : Int)), tb, wd] : List Str)), rfl, rfl, .inl (.of ?_), ?_, ?_⟩
    · rw [upd_same]
      simp
    · have b8 : ∀ z ∈ ((("shape" : Str) :: zs) ++ ([Str.ofString (toString (pl : Int)), tb, wd] : List Str)), z.length ≤ 8 := by
        intro z hz
        rcases List.mem_append.mp hz with h | h
        · rcases List.mem_cons.mp h with rfl | h
          · decide +kernel
          · exact (nm z h).hi
        · rcases List.mem_cons.mp h with rfl | h
          · have : pl = 1 ∨ pl = 2 := by omega
            rcases this with rfl | rfl <;> decide +kernel
          · rcases List.mem_cons.mp h with rfl | h
            · rw [len_codes, ht.len]
              decide
            · rcases List.mem_cons.mp h with rfl | h
              · exact bases_len _ hw
              · cases h
      have sb := sum_le8 b8
      simp only [List.length_cons, List.length_append, List.length_nil] at sb ⊢
      have e1 : (" " : Str).length = 1 := by decide +kernel
      rw [e1]
      omega
    · have nx : x ≠ l := fun z => by
        rw [← z, upd_same] at nl
        cases nl
      refine ⟨.ref x, rfl, x, C, dx, _, rfl, by rw [upd_ne nx]; exact upd_same, S.cl, S.n5, by omega, ?_⟩
      refine q _ (fun a o e na => ?_) ?_
      · have nl' : a ≠ l := fun z => by
          rw [z] at e
          rw [upd_ne nx.symm, upd_ne nx.symm, upd_ne nx.symm, upd_ne nx.symm, s4 _ _ e] at nl
          cases nl
        rw [upd_ne na, upd_ne nl', upd_ne na, upd_ne na, upd_ne na, upd_ne na]
        exact s4 _ _ e
      · rw [upd_same]
        rfl
end
end KT

namespace KT
open PySem PySem.Spec PyProof.Rows L2
def ksA : List Str := ["places", "table", "bases"]
def ksB : List Str := ["bases", "table", "places"]
/-- a def called with positional values and three keywords; what is left over of the positional ones is a new tuple -/
def FnS (P : Program) (w : World) (K : PySem.W.Frag) (mg : Str → Option Value) (base : Heap) (k : Nat) (f : Addr) (ks : List Str) (g : V → V → V → List V) (sp : Sp) : Prop :=
  ∀ (A : Around) (outer : List Env) (s : Shared) (H : Hp) (u a b c : Value) (us : List Value) (x z1 z2 z3 : V) (rest : List V) (Q : VK) (E : XK), Room k A → Env0 P w K mg base A outer s H → RelV x u → Vals rest us →
    RelV z1 a → RelV z2 b → RelV z3 c → (rest.length = 2 ∨ rest.length = 3) → (∀ p, H p = none → sp (x :: g z1 z2 z3 ++ [.ref p]) (upd H p (.tup rest)) Q E) →
    codeAny (model P w) A (.call (.ref f) ⟨u :: us, ks.zip [a, b, c]⟩) (CR CX0 outer P w H s Q E) s
section
variable {P : Program} {w : World} {K : PySem.W.Frag} {mg : Str → Option Value} {base : Heap} {C aB : Addr} {mc : Value}
theorem fnS_of {f : Addr} {fd : FuncData} {k : Nat} {ks : List Str} {g : V → V → V → List V} {gv : Value → Value → Value → List Value} {sp : Sp} (F : Fun K "__init__" "Shape.__init__" sInit f fd)
    (hg : ∀ {z1 z2 z3 : V} {a b c : Value}, RelV z1 a → RelV z2 b → RelV z3 c → Vals (g z1 z2 z3) (gv a b c)) (hl3 : ∀ z1 z2 z3, (g z1 z2 z3).length = 3)
    (hbind : ∀ (kV doc pm : Value) (an : Option Addr) (cdv ct u a b c : Value) (us : List Value), us.length = 2 ∨ us.length = 3 →
      bindArgs (PySem.W.fnOf "__init__" "Shape.__init__" (defArgs sInit) (defBody sInit) (defScope sInit) .none kV doc pm an cdv ct) ⟨u :: us, ks.zip [a, b, c]⟩ = (newTuple us >>= fun t => pure ((["self", "places", "table", "bases"] : List Str).zip (u :: gv a b c) ++ [(("branches" : Str), t)])))
    (hbody : ∀ (cdv : Value) (A : Around) (outer : List Env) (s : Shared) (H : Hp) (vs : List V) (Q : VK) (E : XK), Room k (A.deeper (envOfC "Shape.__init__" (defScope sInit) s.heap.objs.size f cdv)) → sp vs H Q E →
      ∃ t, PSs (cxOf CX0 P w K mg base ["self", "places", "table", "bases", "branches"] "Shape.__init__" (defScope sInit) f cdv A outer s H E).nox (defBody sInit) t ∧ t { nx := fun _ H' => Q .non H', rt := Q } (start ["self", "places", "table", "bases", "branches"] vs) H) :
    FnS P w K mg base (k + 1) f ks g sp := by
  obtain ⟨oc, od, kV, doc, pm, an, cdv, ct, osl, rfl, lk, hcd⟩ := F.ex
  intro A outer s H u a b c us x z1 z2 z3 rest Q E hr e0 rx rr r1 r2 r3 hlen hq
  have hn : H s.heap.objs.size = none := e0.hok.fresh (Nat.le_refl _)
  have lus : us.length = 2 ∨ us.length = 3 := by rw [← rr.length]; exact hlen
  have line : us.length ≤ sizeLine := Nat.le_of_lt (small1000 (by omega))
  have lineV : rest.length ≤ sizeLine := Nat.le_of_lt (small1000 (by omega))
  refine StX.run_bnd lk hcd scInit hr e0 (G := fun xs H2 => ∃ p, H p = none ∧ xs = x :: g z1 z2 z3 ++ [V.ref p] ∧ H2 = upd H p (.tup rest)) (fun A' Ex Q' h => ?_) fun s2 H2 xs ⟨p, fresh, ex, eH⟩ hr' => ?_
  · rw [hbind kV doc pm an cdv ct u a b c us lus]
    refine wpAny_bind (wpAny_newTuple (wpAny_pure ?_) line)
    have laid : ObjOk P w (upd H s.heap.objs.size (.tup rest)) (s.heap.push ({ cls := .type "tuple", data := .seq us.toArray } : Obj)) s.heap.objs.size (.tup rest) := ⟨lineV, us, rr, ⟨_, Heap.get?_push_size _ rfl, rfl, _, rfl⟩⟩
    have un := StX.un_laid (fs := frs outer) (s := s) (o := ({ cls := .type "tuple", data := .seq us.toArray } : Obj)) (u := .tup rest) hn
    have vall : Vals (x :: g z1 z2 z3 ++ [V.ref s.heap.objs.size]) (u :: gv a b c ++ [Value.ref s.heap.objs.size]) := .cons rx ((hg r1 r2 r3).append (.cons rfl .nil))
    have z := h _ _ _ _ (StX.env0_laid e0 laid) un rfl (fun e s' q => q) vall (by simp [hl3]) ⟨_, hn, rfl, rfl⟩
    have lg : (gv a b c).length = 3 := by rw [← (hg r1 r2 r3).length]; exact hl3 _ _ _
    rw [show (u :: gv a b c ++ [Value.ref s.heap.objs.size]) = (u :: gv a b c) ++ [Value.ref s.heap.objs.size] from rfl] at z
    rw [List.zip_append (by simp [lg])] at z
    exact z
  · subst ex eH
    obtain ⟨t, h1, h2⟩ := hbody cdv A outer s2 _ _ Q E hr' (hq p fresh)
    exact ⟨t, h1.nox, h2⟩
/-- C(e, .., k1 = .., k2 = .., k3 = ..) -/
def tMakeS (C : Addr) (g : V → V → V → List V) (sp : Sp) (t tk : TA) : TE := fun σ H Q => t σ H fun vs H1 => tk σ H1 fun zs H2 => ∃ z1 z2 z3, zs = [z1, z2, z3] ∧ (vs.length = 2 ∨ vs.length = 3) ∧ ∀ x dx p, H2 x = none → H2 dx = none → H2 p = none → dx ≠ x → p ≠ x → p ≠ dx →
  sp (.ref x :: g z1 z2 z3 ++ [.ref p]) (upd (upd (upd H2 dx (.own x)) x (.ins C dx [])) p (.tup vs)) (fun v H3 => v = .non ∧ Q (.ref x) H3) E0
end
section
variable {X : Cx} {k : Nat} {f C : Addr} {ks : List Str} {g : V → V → V → List V} {sp : Sp} {x : Str} {p pos : Pos} {e : Expr} {es : List Expr} {kws : List Keyword} {t tk : TA}
theorem pe_makeS (M : Mk X.K C f) (F : FnS X.prog X.w X.K X.mg X.base k f ks g sp) (hr : Room (k + 1) X.A) (hg : Gl X x) (hm : X.mg x = some (.ref C)) (ha : PA X (e :: es) t) (hkw : PK X kws tk) (hl : ks.length = 3)
    (hall : (backToKw pos (keywordEach kws X.env)).all (·.1.isSome) = true := by rfl) (hks : (backToKw pos (keywordEach kws X.env)).filterMap (·.1) = ks := by rfl) (hdb : (x == ("__debug__" : Str)) = false := by decide)
    (he : starEach (e :: es) X.env = (false, eval e X.env) :: starEach es X.env := by rfl) (hpl : ((backTo pos (starEach (e :: es) X.env)).any (·.1) || (backToKw pos (keywordEach kws X.env)).any (·.1.isNone)) = false := by rfl) :
    PE X (.Call (.Name x p) (e :: es) kws pos) (tMakeS C g sp t tk) := by
  refine ⟨fun pins s σ H Q I h => ?_⟩
  refine wpAny_Call_Name_kw (ld_glob I hg hm ?_ hdb)
  refine PySem.W.callWith_KW (h₀ := X.base) I.ok.mod.kin M.kp hall (thn (ha.run pos pins s σ H _ I h) fun us s1 ⟨vs, H1, I1, r, q⟩ => ?_) hpl he
  refine thn (hkw.run pos pins s1 σ H1 _ I1 q) fun ws s2 ⟨zs, H2, I2, rz, q2⟩ => ⟨I2.kIn, ?_⟩
  rw [hks]
  obtain ⟨z1, z2, z3, rfl, lv, q3⟩ := q2
  cases rz with | cons r1 rz => cases rz with | cons r2 rz => cases rz with | cons r3 rz =>
  cases rz
  rename_i w1 w2 w3 hap
  have n0 := I2.hok.fresh (a := s2.heap.objs.size) (Nat.le_refl _)
  have n1 := I2.hok.fresh (a := s2.heap.objs.size + 1) (Nat.le_succ _)
  have I3 := Inv.made (C := C) I2
  have ne01 : s2.heap.objs.size ≠ s2.heap.objs.size + 1 := Nat.ne_of_lt (Nat.lt_succ_self _)
  refine wpAny_call (make_map (f := f) I2.kIn M.makes M.init (beq_iff_eq.mp M.fn) (codeAny_mono (F _ X.stack _ _ (Value.ref (s2.heap.objs.size + 1)) w1 w2 w3 us (V.ref (s2.heap.objs.size + 1)) z1 z2 z3 vs (fun v H3 => v = .non ∧ Q (.ref (s2.heap.objs.size + 1)) H3) E0
    (hr.make C us _) (I3.env0.make C us _) rfl r r1 r2 r3 lv fun pp np => ?_) fun rr s' hq' => ?_))
  · have px : pp ≠ s2.heap.objs.size + 1 := fun z => by rw [z, upd_same] at np; cases np
    have pd : pp ≠ s2.heap.objs.size := fun z => by rw [z, upd_ne ne01, upd_same] at np; cases np
    rw [upd_ne px, upd_ne pd] at np
    exact q3 _ _ pp n1 n0 np ne01 px pd
  · cases rr with
    | error er => exact False.elim hq'
    | ok fl =>
      cases fl with
      | ret u =>
        obtain ⟨v, H', I4, rv, ev, q5⟩ := I3.after hq'
        subst ev
        exact ⟨rv, ⟨V.ref (s2.heap.objs.size + 1), H', I4, rfl, q5⟩⟩
      | next => exact False.elim hq'
      | brk => exact False.elim hq'
      | cont => exact False.elim hq'
end
end KT

namespace KT
open PySem PySem.Spec PyProof.Rows L2
theorem scShape : FnScope ["_law_ground_here", "_law_names_here"] ["_law_ground_here"] (defScope sShape) := ⟨rfl, rfl, rfl, by decide +kernel, rfl, by decide +kernel, by decide +kernel⟩
structure ShapeAt (C : Addr) (H : Hp) (x p : Addr) (zs : List Str) (pl : Nat) (tb wd : Str) : Prop where
  ob : ∃ dx, H x = some (.ins C dx (sflds p pl tb wd (txtOf zs pl tb wd)))
  tp : H p = some (.tup (zs.map V.str))
theorem ShapeAt.same {C : Addr} {H H' : Hp} {x p : Addr} {zs : List Str} {pl : Nat} {tb wd : Str} (S : ShapeAt C H x p zs pl tb wd) (s : Same H H') : ShapeAt C H' x p zs pl tb wd := by
  obtain ⟨⟨dx, h⟩, h2⟩ := S
  exact ⟨⟨dx, s _ _ h⟩, s _ _ h2⟩
/-- what Shape(..) wants of the top -/
structure MkT (P : Program) (w : World) (K : PySem.W.Frag) (mg : Str → Option Value) (base : Heap) (C f : Addr) (k : Nat) : Prop where
  mkc : Mk K C f
  gC : mg "Shape" = some (.ref C)
  fA : FnS P w K mg base k f ksA (fun a b c => [a, b, c]) (spInit C)
  fB : FnS P w K mg base k f ksB (fun a b c => [c, b, a]) (spInit C)
section
variable {P : Program} {w : World} {K : PySem.W.Frag} {mg : Str → Option Value} {base : Heap} {C : Addr}
def spShape (C : Addr) : Sp := fun vs H Q _ => ∃ (g n : Addr) (zs : List Str) (pl : Nat) (tb wd : Str), vs = [.ref g] ∧ Gnd H g n zs pl tb wd ∧
  ∀ H' x p, H x = none → Same H H' → ShapeAt C H' x p zs pl tb wd → Q (.ref x) H'
theorem ok_shape {f fI : Addr} {fd : FuncData} {k : Nat} (F : Fun K "_law_shape" "_law_shape" sShape f fd) (T : Blt mg) (M : MkT P w K mg base C fI k) : FnOk P w K mg base CX0 (k + 2) f fd ["_law_ground_here"] (spShape C) := by
  refine F.ok scShape (fun vs H Q E h => ?_) (fun cdv A outer s H vs Q E hr h => ?_)
  · obtain ⟨g, n, zs, pl, tb, wd, rfl, _⟩ := h
    rfl
  · obtain ⟨g, n, zs, pl, tb, wd, rfl, G, q⟩ := h
    refine ⟨_, pss_cons (ps_set (i := 1) scShape.nd rfl (.inl rfl) (pe_ix ix_tup (pv 0) pe_int (fun _ _ => rfl)))
      (pss_cons (ps_if (pt_cmpR op_eq (pe_callB call_len_seq (by rfl) T.mlen PySem.boot_len (pa_cons (pv 1) pa_nil)) pe_int (nomark _))
        (pss_one (ps_ret (pe_makeS M.mkc M.fA hr (by rfl) M.gC (pa_cons (pe_ix ix_tup (pv 1) pe_int (fun _ _ => rfl)) (pa_cons (pe_ix ix_tup (pv 1) pe_int (fun _ _ => rfl)) pa_nil))
          (pk_cons (pe_ix ix_tup (pv 0) pe_int (fun _ _ => rfl)) (pk_cons (pe_ix ix_tup (pv 0) pe_int (fun _ _ => rfl)) (pk_cons (pe_ix ix_tup (pv 0) pe_int (fun _ _ => rfl)) pk_nil))) rfl))) pss_nil)
      (pss_one (ps_ret (pe_makeS M.mkc M.fB hr (by rfl) M.gC (pa_cons (pe_ix ix_tup (pv 1) pe_int (fun _ _ => rfl)) (pa_cons (pe_ix ix_tup (pv 1) pe_int (fun _ _ => rfl)) (pa_cons (pe_ix ix_tup (pv 1) pe_int (fun _ _ => rfl)) pa_nil)))
          (pk_cons (pe_ix ix_tup (pv 0) pe_int (fun _ _ => rfl)) (pk_cons (pe_ix ix_tup (pv 0) pe_int (fun _ _ => rfl)) (pk_cons (pe_ix ix_tup (pv 0) pe_int (fun _ _ => rfl)) pk_nil))) rfl)))), ?_⟩
    have gt := G.gt
    have nt := G.nt
    refine ⟨.ref g, rfl, g, _, 0, .ref n, rfl, rfl, .of gt, atI_nat (j := 0) rfl, ?_⟩
    refine ⟨.ref n, rfl, n, _, rfl, .inr (.of nt), rfl, _, rfl, ite2 (fun e => ?_) (fun e => ?_)⟩
    · have l2 : zs.length = 2 := by
        have e2 : V.int ((zs.map V.str).length : Nat) = V.int 2 := of_decide_eq_true e
        have e3 := V.int.inj e2
        rw [List.length_map] at e3
        omega
      obtain ⟨z1, z2, rfl⟩ : ∃ a b, zs = [a, b] := by
        match zs, l2 with
        | [a, b], _ => exact ⟨a, b, rfl⟩
      refine ⟨.ref n, rfl, n, _, 0, .str z1, rfl, rfl, .of nt, atI_nat (j := 0) rfl, .ref n, rfl, n, _, 1, .str z2, rfl, rfl, .of nt, atI_nat (j := 1) rfl, ?_⟩
      refine ⟨.ref g, rfl, g, _, 1, .int pl, rfl, rfl, .of gt, atI_nat (j := 1) rfl, .ref g, rfl, g, _, 2, .str tb, rfl, rfl, .of gt, atI_nat (j := 2) rfl, .ref g, rfl, g, _, 3, .str wd, rfl, rfl, .of gt, atI_nat (j := 3) rfl, ?_⟩
      refine ⟨_, _, _, rfl, .inl rfl, fun x dx p nx nd np dxx px pd => ?_⟩
      refine ⟨x, dx, p, [z1, z2], pl, tb, wd, rfl, ?_, upd_same, G.lo, G.hi, G.nm, G.nd, G.p1, G.p2, G.tb, G.wd, fun H' kp ho => ⟨rfl, ?_⟩⟩
      · rw [upd_ne px.symm, upd_same]
      · refine q H' x p nx (fun a o e => kp a o ?_ (ne_of_none e nx)) ⟨⟨dx, ho⟩, kp p _ upd_same px⟩
        rw [upd_ne (ne_of_none e np), upd_ne (ne_of_none e nx), upd_ne (ne_of_none e nd)]
        exact e
    · have l3 : zs.length = 3 := by
        have a := G.lo
        have b := G.hi
        have : zs.length ≠ 2 := fun z => e (by
          rw [List.length_map, z]
          rfl)
        omega
      obtain ⟨z1, z2, z3, rfl⟩ : ∃ a b c, zs = [a, b, c] := by
        match zs, l3 with
        | [a, b, c], _ => exact ⟨a, b, c, rfl⟩
      refine ⟨.ref n, rfl, n, _, 0, .str z1, rfl, rfl, .of nt, atI_nat (j := 0) rfl, .ref n, rfl, n, _, 1, .str z2, rfl, rfl, .of nt, atI_nat (j := 1) rfl, .ref n, rfl, n, _, 2, .str z3, rfl, rfl, .of nt, atI_nat (j := 2) rfl, ?_⟩
      refine ⟨.ref g, rfl, g, _, 3, .str wd, rfl, rfl, .of gt, atI_nat (j := 3) rfl, .ref g, rfl, g, _, 2, .str tb, rfl, rfl, .of gt, atI_nat (j := 2) rfl, .ref g, rfl, g, _, 1, .int pl, rfl, rfl, .of gt, atI_nat (j := 1) rfl, ?_⟩
      refine ⟨_, _, _, rfl, .inr rfl, fun x dx p nx nd np dxx px pd => ?_⟩
      refine ⟨x, dx, p, [z1, z2, z3], pl, tb, wd, rfl, ?_, upd_same, G.lo, G.hi, G.nm, G.nd, G.p1, G.p2, G.tb, G.wd, fun H' kp ho => ⟨rfl, ?_⟩⟩
      · rw [upd_ne px.symm, upd_same]
      · refine q H' x p nx (fun a o e => kp a o ?_ (ne_of_none e nx)) ⟨⟨dx, ho⟩, kp p _ upd_same px⟩
        rw [upd_ne (ne_of_none e np), upd_ne (ne_of_none e nx), upd_ne (ne_of_none e nd)]
        exact e
end
end KT

namespace KT
open PySem PySem.Spec PyProof.Rows L2
section
variable {K : PySem.W.Frag} {H H' : Hp}
theorem same_seqT {a : Addr} {xs : List V} (e : Same H H') (h : SqT K H a xs) : SqT K H' a xs := by
  rcases h with (h | ⟨o, h⟩) | h
  · exact .inl (.inl (e _ _ h))
  · exact .inl (.inr ⟨o, e _ _ h⟩)
  · exact .inr h
mutual
theorem dp_same (e : Same H H') : ∀ {v : V} {d : PyData}, Dp K H v d → Dp K H' v d
  | _, _, .non => .non
  | _, _, .bl b => .bl b
  | _, _, .int i => .int i
  | _, _, .str x => .str x
  | _, _, .lst h1 h2 => .lst (e.seq h1) (dpAll_same e h2)
  | _, _, .tup h1 h2 => .tup (same_seqT e h1) (dpAll_same e h2)
theorem dpAll_same (e : Same H H') : ∀ {vs : List V} {ds : List PyData}, DpAll K H vs ds → DpAll K H' vs ds
  | _, _, .nil => .nil
  | _, _, .cons h1 h2 => .cons (dp_same e h1) (dpAll_same e h2)
end
theorem dpAll_len : ∀ {vs : List V} {ds : List PyData}, DpAll K H vs ds → vs.length = ds.length
  | _, _, .nil => rfl
  | _, _, .cons _ h => by rw [List.length_cons, List.length_cons, dpAll_len h]
theorem dpAll_get : ∀ {vs : List V} {ds : List PyData} {i : Nat} {d : PyData}, DpAll K H vs ds → ds[i]? = some d → ∃ v, vs[i]? = some v ∧ Dp K H v d
  | _, _, _, _, .nil, h => by simp at h
  | _, _, 0, _, .cons h1 _, h => ⟨_, rfl, by have := Option.some.inj h; rw [← this]; exact h1⟩
  | _, _, i + 1, _, .cons _ h2, h => dpAll_get (i := i) h2 h
end
section
variable {K : PySem.W.Frag} {H : Hp}
theorem ixT {a : Addr} {xs : List V} {n : Nat} {x : V} {Q : VK} (h : SqT K H a xs) (hx : xs[n]? = some x) (q : Q x H) : rIx K (.ref a) (.int n) H Q := .inr (.inl ⟨_, _, _, _, rfl, rfl, h, atI_nat hx, q⟩)
theorem ixL {a : Addr} {xs : List V} {n : Nat} {x : V} {Q : VK} (h : SqL K H a xs) (hx : xs[n]? = some x) (q : Q x H) : rIx K (.ref a) (.int n) H Q := .inl ⟨_, _, _, _, rfl, rfl, h, atI_nat hx, q⟩
theorem take_succ {α : Type} {l : List α} {i : Nat} (h : i < l.length) : l.take (i + 1) = l.take i ++ [l[i]] := by rw [List.take_add_one, List.getElem?_eq_getElem h]; rfl

theorem small500 {n : Nat} (h : n ≤ 500) : n < sizeLine := small1000 (by omega)
end
end KT

/-! `first, *rest = t`, t a tuple that is not empty -/
namespace WHR
open PySem PySem.Spec PyProof.Rows L2
section
variable {prog : Program} {w : World} {A : Around} {bad : Value → Shared → Prop} {st : Shared}
theorem head_rest {t : Addr} {u : Value} {us : List Value} {Q : List Value → Shared → Prop} (it : IsTup st.heap t (u :: us).toArray) (calm : A.handled = none) (few : us.length + 1 ≤ sizeLine)
    (then_ : ∀ (hp' : Heap) (D : Addr) (tk : Nat), (∀ b ob, st.heap.get? b = some ob → hp'.get? b = some ob) → st.heap.get? D = none → hp'.get? D = some { cls := .type "list", data := .seq us.toArray } → Q [u, .ref D] { st with heap := hp', toks := tk }) :
    wpAny (model prog w) A (unpackItems (.ref t) 2 (some 1)) Q bad st := by
  have tlt : t < st.heap.objs.size := by
    rcases it with ⟨ob, eo, _⟩
    exact Heap.lt_size eo
  have tne : t ≠ st.heap.objs.size := Nat.ne_of_lt tlt
  unfold unpackItems
  apply wpAny_bind
  unfold notIterableAtAll
  apply wpAny_bind
  apply wpAny_specialOf it.typeIs slot_tuple_iter.lookup
  apply wpAny_pure
  simp only [Bool.false_eq_true, if_false]
  apply wpAny_bind
  apply wpAny_holding
  apply iter_tuple it
  apply wpAny_bind
  apply wpAny_holding
  have it1 := it.push (o := { cls := .type "tuple_iterator", data := .fields #[.ref t, .int 0 0] })
  apply draw_tuple tne 1 0 _ _ ⟨_, Heap.get?_push_size _ rfl, rfl, rfl⟩ it1 (by simp)
  intro hp1 iter1 but1
  have it2 : IsTup hp1 t (u :: us).toArray := it1.extBut but1.extBut tne
  have ilt : st.heap.objs.size < hp1.objs.size := by
    rcases iter1 with ⟨ob, eo, _⟩
    exact Heap.lt_size eo
  have tlt1 : t < hp1.objs.size := by
    rcases it2 with ⟨ob, eo, _⟩
    exact Heap.lt_size eo
  have one : ((u :: us).toArray.toList.drop 0).take 1 = [u] := rfl
  rw [one]
  rw [if_neg (show ¬ ([u].length < 1) from Nat.lt_irrefl 1)]
  apply wpAny_bind
  apply wpAny_holding
  apply PySem.W.kun_collect (s := { st with heap := hp1 }) (T := "tuple_iterator") (.inr (.inr (.inr rfl))) (Walks.tuple (A := A.in1) calm st.heap.objs.size t tne (u :: us).toArray) (fun j x here => here.1.typeIs) (k := 1) (by simp) ⟨iter1, it2⟩ ilt tlt1 _ (by simpa using few)
  intro hp2 tk keep
  have rest : (u :: us).toArray.toList.drop 1 = us := rfl
  rw [rest]
  change wpAny _ _ (if us.length < 0 then _ else _) _ _ _
  rw [if_neg (Nat.not_lt_zero _)]
  change wpAny _ _ (newList (us.take (us.length - 0)) >>= fun d => pure ([u] ++ [d] ++ us.drop (us.length - 0))) _ _ _
  rw [Nat.sub_zero, List.take_length, List.drop_length]
  have old : ∀ b ob, st.heap.get? b = some ob → hp2.get? b = some ob := by
    intro b ob eb
    have ne : b ≠ st.heap.objs.size := Nat.ne_of_lt (Heap.lt_size eb)
    exact keep b ob ne (but1.extBut b ob ne (Heap.get?_push_of_some _ eb))
  apply wpAny_bind
  refine wpAny_newList (s := { st with heap := hp2, toks := tk }) ?_ (Nat.le_trans (Nat.le_succ _) few)
  apply wpAny_pure
  refine then_ _ hp2.objs.size tk (fun b ob eb => Heap.get?_push_of_some _ (old b ob eb)) ?_ (Heap.get?_push_size _ rfl)
  cases gone : st.heap.get? hp2.objs.size with
  | none => rfl
  | some ob => exact absurd (Heap.lt_size (old _ _ gone)) (Nat.lt_irrefl _)
end
/-- t1, *t2 = a tuple that is not empty: t2 is a new list -/
def gHR (K : PySem.W.Frag) (g1 g2 : TG) : TG := fun v σ H Q => ∃ a x xs, v = .ref a ∧ SqT K H a (x :: xs) ∧ ∀ D, H D = none → g1 x σ (upd H D (.lst xs)) fun σ1 H1 => g2 (.ref D) σ1 H1 Q
section
variable {X : Cx} {pos p2 : Pos}
theorem pg_hr {t1 t2 : Expr} {k : Nat} {g1 g2 : TG} (hc : X.calm = true) (h1 : PG X t1 g1) (h2 : PG X t2 g2)
    (hn : (assignEach [t1, .Starred t2 p2] X.env).length = 2 := by rfl) (hst : (assignEach [t1, .Starred t2 p2] X.env).findIdx? (·.1) = some 1 := by rfl)
    (hm : (assignEach [t1, .Starred t2 p2] X.env).map (·.2) = [assign t1 X.env, assign t2 X.env] := by rfl) : PG X (.Tuple [t1, .Starred t2 p2] k pos) (gHR X.K g1 g2) := by
  refine ⟨fun pins s σ H v u Q I rel want => ?_⟩
  obtain ⟨a, x, xs, rfl, tup, told⟩ := want
  obtain rfl : u = Value.ref a := rel
  obtain ⟨its, rxs, ist, few⟩ := I.tuple tup
  cases rxs with
  | @cons _ v0 _ vs r0 rr =>
    rw [assign_Tuple]
    apply wpAny_bind
    apply wpAny_standAt
    unfold unpack
    rw [hn, hst]
    apply wpAny_bind
    apply wpAny_holding
    refine head_rest ist (I.ok.hd hc) (by rw [← rr.length]; exact few) fun hp' D tk keep none_ isl => ?_
    have fresh : H D = none := L2.HOk.gone I.hok none_
    have J : Inv X pins σ (upd H D (.lst xs)) { s with heap := hp', toks := tk } := Inv.laidN I keep none_ fresh ⟨Nat.le_trans (Nat.le_succ _) few, vs, 0, rr, isl⟩
    rw [hm]
    refine assignInOrder_cons (thn (h1.run pins _ σ _ x v0 _ J r0 (told D fresh)) fun _ s1 ⟨σ1, H1, I1, q1⟩ => ?_)
    refine assignInOrder_cons (thn (h2.run pins s1 σ1 H1 (.ref D) (.ref D) Q I1 rfl q1) fun _ s2 z => ?_)
    exact assignInOrder_nil z
end
end WHR

/-! `z not in d`, `z in d`: d a dict that a module writes, its keys texts -/
namespace WKD
open PySem PySem.Spec PyProof.Rows L2
/-- whether the written dict at a has the key z -/
def Has (K : PySem.W.Frag) (w : World) (a : Addr) (z : Str) (b : Bool) : Prop := ∃ (es : Array DictEntry) (n : Nat) (r : Option Value), K.lookup a = some ⟨.type "dict", none, .dict es n, #[]⟩ ∧ PySem.W.KeysLit w.params es.toList ∧ (a == sysModules) = false ∧ PySem.W.nsIn K a z = some r ∧ r.isSome = b
def rNoKey (K : PySem.W.Frag) (w : World) : R2 := fun x y H Q => ∃ z a b, x = .str z ∧ y = .ref a ∧ Has K w a z b ∧ Q (.bl (!b)) H
def rKey (K : PySem.W.Frag) (w : World) : R2 := fun x y H Q => ∃ z a b, x = .str z ∧ y = .ref a ∧ Has K w a z b ∧ Q (.bl b) H
section
variable {X : Cx}
theorem op_noKey : OpR X (compareOp .NotIn) (rNoKey X.K X.w) := by
  intro pins s σ H x y v u Q I rx ry want
  obtain ⟨z, a, b, rfl, rfl, ⟨es, n, r, look, lits, low, found, rfl⟩, q⟩ := want
  obtain ⟨tk, rfl⟩ := (show ∃ tk, v = Value.str z tk from rx)
  obtain rfl : u = Value.ref a := ry
  have mp := PySem.W.mapOf_K (prog := X.prog) (w := X.w) I.kIn look lits
  apply wpAny_notIn_of (strKind_is X.prog X.w z tk) low mp
  rw [PySem.W.find_K look found]
  exact ⟨.bl _, H, I.tok _, rfl, q⟩
theorem op_key : OpR X (compareOp .In) (rKey X.K X.w) := by
  intro pins s σ H x y v u Q I rx ry want
  obtain ⟨z, a, b, rfl, rfl, ⟨es, n, r, look, lits, low, found, rfl⟩, q⟩ := want
  obtain ⟨tk, rfl⟩ := (show ∃ tk, v = Value.str z tk from rx)
  obtain rfl : u = Value.ref a := ry
  have mp := PySem.W.mapOf_K (prog := X.prog) (w := X.w) I.kIn look lits
  apply wpAny_in_of (strKind_is X.prog X.w z tk) low mp
  rw [PySem.W.find_K look found]
  exact ⟨.bl _, H, I.tok _, rfl, q⟩
end
end WKD

namespace KT
open PySem PySem.Spec PyProof.Rows L2
section
variable {X : Cx}
/-- x in t, t a tuple of data -/
def rInTD (K : PySem.W.Frag) : R2 := fun x y H Q => ∃ d ds, Dp K H x d ∧ Dp K H y (.tuple ds) ∧ SeqAt.shaped d = true ∧ SeqAt.shaped (.tuple ds) = true ∧ Q (.bl (ds.any fun z => PyData.eqv z d)) H
theorem op_inTD (room : X.A.units + 65 < cLine) : OpR X (compareOp .In) (rInTD X.K) := by
  intro pins s σ H x y v u Q I rx ry want
  obtain ⟨d, ds, dx, dy, sx, sy, q⟩ := want
  rcases Dp.reads I d x v dx rx with ⟨as, readX⟩
  rcases Dp.reads I (.tuple ds) y u dy ry with ⟨bs, readY⟩
  apply SeqAt.in_tuple_reads readY readX (SeqAt.canLay_of_shaped sy) (SeqAt.canLay_of_shaped sx) (room_in_shaped sx room)
  exact ⟨.bl _, H, I, rfl, q⟩
end
/-- the kind of data -/
def tyD : PyData → String
  | .none => "NoneType"
  | .bool _ => "bool"
  | .int _ => "int"
  | .str _ => "str"
  | .list _ => "list"
  | _ => "tuple"
theorem ty_data {K : PySem.W.Frag} {H : Hp} {v : V} {d : PyData} (h : Dp K H v d) : TyX K H v (.type (tyD d)) := by
  cases h with
  | non => exact .base .non
  | bl b => exact .base (.bl b)
  | int i => exact .base (.int i)
  | str z => exact .base (.str z)
  | lst hs _ =>
    rcases hs with (hs | ⟨o, hs⟩) | ⟨o, its, n, hs, hc, _⟩
    · exact .base (.lst hs)
    · exact .base (.frz hs)
    · exact .kList hs hc
  | tup hs _ =>
    rcases hs with (hs | ⟨o, hs⟩) | ⟨o, its, n, hs, hc, _⟩
    · exact .base (.tup hs)
    · exact .fTuple hs
    · exact .kTuple hs hc
def numB : PyData → Bool
  | .int _ => true
  | _ => false
def idxB (m : Nat) : PyData → Bool
  | .int i => decide (0 ≤ i) && decide (i < m)
  | _ => false
abbrev sIndex : Stmt := top 13
theorem scIndex : FnScope ["value", "many"] ["value", "many"] (defScope sIndex) := ⟨rfl, rfl, rfl, by decide +kernel, rfl, by decide +kernel, by decide +kernel⟩
section
variable {P : Program} {w : World} {K : PySem.W.Frag} {mg : Str → Option Value} {base : Heap}
def spNumD (K : PySem.W.Frag) : Sp := fun vs H Q _ => ∃ (v : V) (d : PyData), vs = [v] ∧ Dp K H v d ∧ Q (.bl (numB d)) H
theorem ok_numD {f : Addr} {fd : FuncData} {k : Nat} (F : Fun K "is_number" "is_number" sNum f fd) (T : Blt mg) : FnOk P w K mg base CX0 (k + 1) f fd ["value"] (spNumD K) := by
  refine F.ok scNum (fun vs H Q E h => ?_) (fun cdv A outer s H vs Q E hr h => ?_)
  · obtain ⟨v, d, rfl, _⟩ := h
    rfl
  · obtain ⟨v, d, rfl, hv, q⟩ := h
    refine ⟨_, pss_one (ps_ret (pe_and (pe_callB call_isi (by rfl) T.misi (by decide +kernel) (pa_cons (pv 0) (pa_cons (pe_bltn (v := .ty "int") (by rfl) T.mint (by decide +kernel) rfl) pa_nil)))
      (pe_one (pe_not (pe_callB call_isi (by rfl) T.misi (by decide +kernel) (pa_cons (pv 0) (pa_cons (pe_bltn (v := .ty "bool") (by rfl) T.mbool (by decide +kernel) rfl) pa_nil))))))), ?_⟩
    have ty := ty_data hv
    obtain ⟨b1, e1⟩ : ∃ b, kitB (tyD d) "int" = some b := by cases d <;> exact ⟨_, rfl⟩
    obtain ⟨b2, e2⟩ : ∃ b, kitB (tyD d) "bool" = some b := by cases d <;> exact ⟨_, rfl⟩
    refine ⟨v, rfl, v, .ty "int", _, _, b1, rfl, .ty "int", ty, kit_ty e1, b1, rfl, ?_⟩
    cases b1 with
    | false =>
      refine iteF ?_
      have : numB d = false := by
        cases hv with
        | int i => exact absurd (show kitB "int" "int" = some false from e1) (by decide +kernel)
        | _ => rfl
      rw [this] at q
      exact q
    | true =>
      refine iteT ⟨v, rfl, v, .ty "bool", _, _, b2, rfl, .ty "bool", ty, kit_ty e2, b2, rfl, ?_⟩
      have : numB d = !b2 := by
        cases hv with
        | bl b =>
          have e3 : kitB "bool" "bool" = some true := by decide +kernel
          have := e3.symm.trans e2
          rw [← Option.some.inj this]
          rfl
        | int i =>
          have e3 : kitB "int" "bool" = some false := by decide +kernel
          have := e3.symm.trans e2
          rw [← Option.some.inj this]
          rfl
        | non => exact absurd (show kitB "NoneType" "int" = some true from e1) (by decide +kernel)
        | str z => exact absurd (show kitB "str" "int" = some true from e1) (by decide +kernel)
        | lst _ _ => exact absurd (show kitB "list" "int" = some true from e1) (by decide +kernel)
        | tup _ _ => exact absurd (show kitB "tuple" "int" = some true from e1) (by decide +kernel)
      rw [← this]
      exact q
def spIdxD (K : PySem.W.Frag) : Sp := fun vs H Q _ => ∃ (v : V) (d : PyData) (m : Nat), vs = [v, .int m] ∧ Dp K H v d ∧ Q (.bl (idxB m d)) H
theorem ok_idxD {f fN : Addr} {fd fdN : FuncData} {k : Nat} (F : Fun K "is_index" "is_index" sIndex f fd) (T : Blt mg) (FN : Fun K "is_number" "is_number" sNum fN fdN) (bN : Binds K fdN ["value"] []) (gN : mg "is_number" = some (.ref fN)) : FnOk P w K mg base CX0 (k + 2) f fd ["value", "many"] (spIdxD K) := by
  have GN : FnOk P w K mg base CX0 (k + 1) fN fdN ["value"] (spNumD K) := ok_numD FN T
  refine F.ok scIndex (fun vs H Q E h => ?_) (fun cdv A outer s H vs Q E hr h => ?_)
  · obtain ⟨v, d, m, rfl, _⟩ := h
    rfl
  · obtain ⟨v, d, m, rfl, hv, q⟩ := h
    refine ⟨_, pss_one (ps_ret (pe_and (pe_call GN hr (by rfl) gN FN.kp bN .nil pass0 (pa_cons (pv 0) pa_nil)) (pe_one (pe_chain op_le op_lt pe_int (pv 0) (pv 1))))), ?_⟩
    refine ⟨v, rfl, v, d, rfl, hv, numB d, rfl, ?_⟩
    cases hv with
    | int i =>
      refine iteT ⟨.int i, rfl, _, _, rfl, rfl, decide (0 ≤ i), rfl, ?_⟩
      by_cases h0 : 0 ≤ i
      · rw [decide_eq_true h0]
        refine iteT ⟨.int m, rfl, _, _, rfl, rfl, ?_⟩
        have e : idxB m (.int i) = decide (i < (m : Int)) := by
          show (decide (0 ≤ i) && decide (i < (m : Int))) = _
          rw [decide_eq_true h0, Bool.true_and]
        rw [e] at q
        exact q
      · rw [decide_eq_false h0]
        have e : idxB m (.int i) = false := by
          show (decide (0 ≤ i) && decide (i < (m : Int))) = _
          rw [decide_eq_false h0, Bool.false_and]
        rw [e] at q
        exact iteF q
    | _ => exact iteF q
end
end KT

namespace KT
open PySem PySem.Spec PyProof.Rows L2
abbrev sGBranches : Stmt := inClass (top 21) 3
abbrev sGPlaces : Stmt := inClass (top 21) 4
abbrev sFits : Stmt := top 18
theorem scGBranches : FnScope ["self"] ["self"] (defScope sGBranches) := ⟨rfl, rfl, rfl, by decide +kernel, rfl, by decide +kernel, by decide +kernel⟩
theorem scGPlaces : FnScope ["self"] ["self"] (defScope sGPlaces) := ⟨rfl, rfl, rfl, by decide +kernel, rfl, by decide +kernel, by decide +kernel⟩
theorem scFits : FnScope ["shape", "kind", "item", "branch"] ["shape", "kind", "item", "branch"] (defScope sFits) := ⟨rfl, rfl, rfl, by decide +kernel, rfl, by decide +kernel, by decide +kernel⟩
section
variable {P : Program} {w : World} {K : PySem.W.Frag} {mg : Str → Option Value} {base : Heap} {C aB : Addr} {mc : Value} {f : Addr} {fd : FuncData} {k : Nat}
theorem ok_gbranches (F : Fun K "branches" "Shape.branches" sGBranches f fd) (S : ShT K mg C mc aB) : FnOk P w K mg base CX0 (k + 1) f fd ["self"] (getSp C "_branches") := by
  refine F.ok scGBranches (fun vs H Q E h => ?_) (fun cdv A outer s H vs Q E hr h => ?_)
  · obtain ⟨a, dx, fs, v, rfl, _⟩ := h
    rfl
  · obtain ⟨a, dx, fs, v, rfl, ea, l, q⟩ := h
    exact ⟨_, pss_one (ps_ret (pe_fld (pv 0) rfl)), .ref a, rfl, a, C, dx, fs, v, rfl, ea, S.cl, S.n1, l, q⟩
theorem ok_gplaces (F : Fun K "places" "Shape.places" sGPlaces f fd) (S : ShT K mg C mc aB) : FnOk P w K mg base CX0 (k + 1) f fd ["self"] (getSp C "_places") := by
  refine F.ok scGPlaces (fun vs H Q E h => ?_) (fun cdv A outer s H vs Q E hr h => ?_)
  · obtain ⟨a, dx, fs, v, rfl, _⟩ := h
    rfl
  · obtain ⟨a, dx, fs, v, rfl, ea, l, q⟩ := h
    exact ⟨_, pss_one (ps_ret (pe_fld (pv 0) rfl)), .ref a, rfl, a, C, dx, fs, v, rfl, ea, S.cl, S.n2, l, q⟩
/-- a property, its getter and the getter's promise -/
structure PropT (P : Program) (w : World) (K : PySem.W.Frag) (mg : Str → Option Value) (base : Heap) (C : Addr) (f : Str) (fld : Str) : Prop where
  all : ∃ (p g : Addr) (fd : FuncData), PropOf K C f p g ∧ Binds K fd ["self"] [] ∧ ∀ k, FnOk P w K mg base CX0 (k + 1) g fd ["self"] (getSp C fld)
end
section
variable {X : Cx} {C : Addr} {fld nm : Str} {e : Expr} {ta : TE} {pos : Pos} {n : Nat}
theorem pe_get (c : Cls X.K C) (p : PropT X.prog X.w X.K X.mg X.base C nm fld) (he : PE X e ta) (hr : Room (n + 2) X.A) (hab : attributeBase e nm X.env (eval e X.env) = eval e X.env := by rfl) : PE X (.Attribute e nm pos) (tProp C (getSp C fld) [] E0 ta) := by
  obtain ⟨q, g, fd, hp, hb, F⟩ := p.all
  exact pe_prop he c hp (F 0) (hr.mono (by omega)) hb .nil pass0 hab
end
/-- a shape of these branches and places -/
def ShpAt (K : PySem.W.Frag) (C : Addr) (H : Hp) (x : Addr) (zs : List Str) (pl : Nat) : Prop := ∃ dx p fs, H x = some (.ins C dx fs) ∧ fs.lookup ("_branches" : Str) = some (.ref p) ∧ fs.lookup ("_places" : Str) = some (.int pl) ∧ SqT K H p (zs.map V.str) ∧ ∀ z ∈ zs, PyData.strOk z = true
def inB (zs : List Str) (d : PyData) : Bool := (zs.map PyData.str).any fun z => PyData.eqv z d
/-- whether data may stand as an item of a deed -/
def fitsB (zs : List Str) (pl : Nat) (kind : Str) (item branch : PyData) : Bool :=
  if kind = "place" then idxB pl item else if kind = "meaning" then inB ["in", "out"] item else if kind = "other" ∧ PyData.eqv item branch = true then false else inB zs item
theorem strs_dp {K : PySem.W.Frag} {H : Hp} : ∀ zs : List Str, DpAll K H (zs.map V.str) (zs.map PyData.str)
  | [] => .nil
  | z :: r => .cons (.str z) (strs_dp r)
theorem strs_lay : ∀ zs : List Str, (∀ z ∈ zs, PyData.strOk z = true) → PyData.canLayAll0 (zs.map PyData.str) = true
  | [], _ => by simp [PyData.canLayAll0]
  | z :: r, h => by
    have a := h z List.mem_cons_self
    have b := strs_lay r fun y hy => h y (List.mem_cons_of_mem z hy)
    simp [PyData.canLayAll0, PyData.canLay0, a, b]
theorem strs_depth : ∀ zs : List Str, PyData.depthAll (zs.map PyData.str) ≤ 1
  | [] => by simp [PyData.depthAll]
  | z :: r => by
    have := strs_depth r
    simp [PyData.depthAll, PyData.depth]
    omega
theorem strs_shaped (zs : List Str) (h : ∀ z ∈ zs, PyData.strOk z = true) : SeqAt.shaped (.tuple (zs.map PyData.str)) = true := by
  have := strs_depth zs
  unfold SeqAt.shaped
  rw [Bool.and_eq_true, decide_eq_true_iff]
  refine ⟨by simp [PyData.canLay0, strs_lay zs h], ?_⟩
  simp [PyData.depth]
  omega
theorem room65 {k : Nat} {A : Around} (r : Room k A) : A.units + 65 < cLine := by have := r.un; omega
section
variable {P : Program} {w : World} {K : PySem.W.Frag} {mg : Str → Option Value} {base : Heap} {C aB aM : Addr} {mc : Value}
def spFits (K : PySem.W.Frag) (C : Addr) : Sp := fun vs H Q _ => ∃ (x : Addr) (kind : Str) (v u : V) (d e : PyData) (zs : List Str) (pl : Nat), vs = [.ref x, .str kind, v, u] ∧ ShpAt K C H x zs pl ∧ Dp K H v d ∧ Dp K H u e ∧ SeqAt.shaped d = true ∧ SeqAt.shaped e = true ∧ Q (.bl (fitsB zs pl kind d e)) H
theorem ok_fits {f fI : Addr} {fd fdI : FuncData} {k : Nat} (F : Fun K "_fits" "_fits" sFits f fd) (S : ShT K mg C mc aB) (Pb : PropT P w K mg base C "branches" "_branches") (Pp : PropT P w K mg base C "places" "_places")
    (gM : mg "MEANINGS" = some (.ref aM)) (tM : ∀ H, SqT K H aM (([("in" : Str), "out"] : List Str).map V.str))
    (GI : FnOk P w K mg base CX0 (k + 2) fI fdI ["value", "many"] (spIdxD K)) (kI : PySem.W.keepIn K (.ref fI) = true) (bI : Binds K fdI ["value", "many"] []) (gI : mg "is_index" = some (.ref fI)) :
    FnOk P w K mg base CX0 (k + 3) f fd ["shape", "kind", "item", "branch"] (spFits K C) := by
  refine F.ok scFits (fun vs H Q E h => ?_) (fun cdv A outer s H vs Q E hr h => ?_)
  · obtain ⟨x, kind, v, u, d, e, zs, pl, rfl, _⟩ := h
    rfl
  · obtain ⟨x, kind, v, u, d, e, zs, pl, rfl, hx, hv, hu, sd, se, q⟩ := h
    refine ⟨_, pss_cons (ps_if (pt_cmpR op_eq (pv 1) pe_str (nomark _)) (pss_one (ps_ret (pe_call GI hr (by rfl) gI kI bI .nil pass0 (pa_cons (pv 2) (pa_cons (pe_get S.cl Pp (pv 0) (n := k) hr) pa_nil))))) pss_nil)
      (pss_cons (ps_if (pt_cmpR op_eq (pv 1) pe_str (nomark _)) (pss_one (ps_ret (pe_cmpR (op_inTD (room65 hr)) (pv 2) (pe_glob (v := .ref aM) (by rfl) gM rfl) (by rfl)))) pss_nil)
      (pss_cons (ps_if (PW.pt (pw_and (pt_cmpR op_eq (pv 1) pe_str (nomark _)) (pw_and1 (pt_cmpR (op_eqD hr.units) (pv 2) (pv 3) (nomark _))))) (pss_one (ps_ret pe_bl)) pss_nil)
      (pss_one (ps_ret (pe_cmpR (op_inTD (room65 hr)) (pv 2) (pe_get S.cl Pb (pv 0) (n := k) hr) (by rfl)))))), ?_⟩
    obtain ⟨dx, p, fs, ex, lb, lp, tp, ok⟩ := hx
    refine ⟨.str kind, rfl, rfl, _, rfl, ?_⟩
    by_cases h1 : kind = "place"
    · rw [show decide (V.str kind = V.str "place") = true from decide_eq_true (by rw [h1])]
      refine iteT ⟨v, rfl, .ref x, rfl, x, dx, _, rfl, ex, x, dx, _, _, rfl, ex, lp, v, d, pl, rfl, hv, ?_⟩
      unfold fitsB at q
      rw [if_pos h1] at q
      exact q
    rw [show decide (V.str kind = V.str "place") = false from decide_eq_false fun z => h1 (V.str.inj z)]
    refine iteF ⟨.str kind, rfl, rfl, _, rfl, ?_⟩
    by_cases h2 : kind = "meaning"
    · rw [show decide (V.str kind = V.str "meaning") = true from decide_eq_true (by rw [h2])]
      refine iteT ⟨v, rfl, d, _, hv, .tup (tM H) (strs_dp _), sd, strs_shaped _ (by decide +kernel), ?_⟩
      unfold fitsB at q
      rw [if_neg h1, if_pos h2] at q
      exact q
    rw [show decide (V.str kind = V.str "meaning") = false from decide_eq_false fun z => h2 (V.str.inj z)]
    refine iteF ⟨.str kind, rfl, rfl, _, rfl, ?_⟩
    have rest : (¬ (kind = "other" ∧ PyData.eqv d e = true)) → fitsB zs pl kind d e = inB zs d := fun h3 => by
      unfold fitsB
      rw [if_neg h1, if_neg h2, if_neg h3]
    by_cases h3 : kind = "other"
    · rw [show decide (V.str kind = V.str "other") = true from decide_eq_true (by rw [h3])]
      refine iteT ⟨v, rfl, u, rfl, d, e, hv, hu, sd, se, _, rfl, ?_⟩
      cases h4 : PyData.eqv d e with
      | true =>
        have : fitsB zs pl kind d e = false := by
          unfold fitsB
          rw [if_neg h1, if_neg h2, if_pos ⟨h3, h4⟩]
        rw [this] at q
        exact iteT q
      | false =>
        rw [rest (fun z => by rw [h4] at z; exact absurd z.2 (by decide))] at q
        exact iteF ⟨v, rfl, .ref x, rfl, x, dx, _, rfl, ex, x, dx, _, _, rfl, ex, lb, d, _, hv, .tup tp (strs_dp _), sd, strs_shaped _ ok, q⟩
    · rw [show decide (V.str kind = V.str "other") = false from decide_eq_false fun z => h3 (V.str.inj z)]
      rw [rest (fun z => h3 z.1)] at q
      exact iteF (iteF ⟨v, rfl, .ref x, rfl, x, dx, _, rfl, ex, x, dx, _, _, rfl, ex, lb, d, _, hv, .tup tp (strs_dp _), sd, strs_shaped _ ok, q⟩)
end
end KT

namespace KT
open PySem PySem.Spec PyProof.Rows L2
abbrev sDeed : Stmt := top 17
abbrev deedN : List Str := ["shape", "value", "word", "items", "kinds", "kind", "item"]
theorem scDeed : FnScope ["shape", "value", "word", "items", "kinds", "kind", "item"] ["shape", "value"] (defScope sDeed) := ⟨rfl, rfl, rfl, by decide +kernel, rfl, by decide +kernel, by decide +kernel⟩
/-- what stands behind the first word of a deed -/
def kindsOf (z : Str) : Option (List Str) :=
  if z = "make" ∨ z = "restore" ∨ z = "drop" then some ["branch", "place"] else if z = "pick" then some ["branch", "other", "place", "place"]
  else if z = "merge" ∨ z = "squash" ∨ z = "hear" then some ["branch", "other"] else if z = "pass" then some ["branch"] else if z = "mean" then some ["branch", "meaning"] else none
theorem kinds_len {z : Str} {ks : List Str} (h : kindsOf z = some ks) : 1 ≤ ks.length ∧ ks.length ≤ 4 := by
  unfold kindsOf at h
  split at h
  · rw [← Option.some.inj h]; decide
  split at h
  · rw [← Option.some.inj h]; decide
  split at h
  · rw [← Option.some.inj h]; decide
  split at h
  · rw [← Option.some.inj h]; decide
  split at h
  · rw [← Option.some.inj h]; decide
  · cases h
/-- whether data is a deed of a shape -/
def judgeB (zs : List Str) (pl : Nat) : PyData → Bool
  | .tuple (.str w :: items) => match kindsOf w with
    | some ks => decide (items.length = ks.length) && (ks.zip items).all fun p => fitsB zs pl p.1 p.2 (items.getD 0 .none)
    | none => false
  | _ => false
section
variable {P : Program} {w : World} {K : PySem.W.Frag} {mg : Str → Option Value} {base : Heap} {C aB aF : Addr} {mc : Value}
/-- the table of the forms -/
structure Forms (K : PySem.W.Frag) (w : World) (aF : Addr) : Prop where
  no : ∀ z, kindsOf z = none → WKD.Has K w aF z false
  yes : ∀ z ks, kindsOf z = some ks → WKD.Has K w aF z true ∧ ∃ p, KDct K w aF z (.ref p) ∧ ∀ H, SqT K H p (ks.map V.str)
def spDeed (K : PySem.W.Frag) (C : Addr) : Sp := fun vs H Q _ => ∃ (x : Addr) (v : V) (d : PyData) (zs : List Str) (pl : Nat), vs = [.ref x, v] ∧ ShpAt K C H x zs pl ∧ Dp K H v d ∧ (∀ ds, d = .tuple ds → ds.length ≤ 500 ∧ ∀ y ∈ ds, SeqAt.shaped y = true) ∧ ∀ H', Same H H' → Q (.bl (judgeB zs pl d)) H'
theorem ShpAt.same {H H' : Hp} {x : Addr} {zs : List Str} {pl : Nat} (h : ShpAt K C H x zs pl) (s : Same H H') : ShpAt K C H' x zs pl := by
  obtain ⟨dx, p, fs, a, b, c, d, e⟩ := h
  refine ⟨dx, p, fs, s _ _ a, b, c, ?_, e⟩
  rcases d with (d | ⟨o, d⟩) | d
  · exact .inl (.inl (s _ _ d))
  · exact .inl (.inr ⟨o, s _ _ d⟩)
  · exact .inr d
theorem ok_deed {f fF : Addr} {fd fdF : FuncData} {k : Nat} (F : Fun K "is_deed" "is_deed" sDeed f fd) (T : Blt mg) (mzip : mg "zip" = none) (FM : Forms K w aF) (gF : mg "FORMS" = some (.ref aF))
    (GF : FnOk P w K mg base CX0 (k + 3) fF fdF ["shape", "kind", "item", "branch"] (spFits K C)) (kF : PySem.W.keepIn K (.ref fF) = true) (bF : Binds K fdF ["shape", "kind", "item", "branch"] []) (gFi : mg "_fits" = some (.ref fF)) :
    FnOk P w K mg base CX0 (k + 4) f fd ["shape", "value"] (spDeed K C) := by
  refine F.ok scDeed (fun vs H Q E h => ?_) (fun cdv A outer s H vs Q E hr h => ?_)
  · obtain ⟨x, v, d, zs, pl, rfl, _⟩ := h
    rfl
  · obtain ⟨x, v, d, zs, pl, rfl, hx, hv, hd, q⟩ := h
    have nd := scDeed.nd
    refine ⟨_, pss_cons (ps_if (PW.pt (pw_or (pt_not (pt_val (pe_callB call_isi (by rfl) T.misi (by decide +kernel) (pa_cons (pv 1) (pa_cons (pe_bltn (v := .ty "tuple") (by rfl) T.mtuple (by decide +kernel) rfl) pa_nil))))) (pw_or1 (pt_not (pt_truth (pv 1) (by intro _; rfl)))))) (pss_one (ps_ret pe_bl)) pss_nil)
      (pss_cons (ps_asg (pv 1) (WHR.pg_hr rfl (pg_name (i := 2) nd rfl (.inl rfl)) (pg_name (i := 3) nd rfl (.inr rfl))) rfl rfl)
      (pss_cons (ps_if (PW.pt (pw_or (pt_not (pt_val (pe_callB call_isi (by rfl) T.misi (by decide +kernel) (pa_cons (pv 2) (pa_cons (pe_bltn (v := .ty "str") (by rfl) T.mstr (by decide +kernel) rfl) pa_nil))))) (pw_or1 (pt_cmpR WKD.op_noKey (pv 2) (pe_glob (v := .ref aF) (by rfl) gF rfl) (by rfl))))) (pss_one (ps_ret pe_bl)) pss_nil)
      (pss_cons (ps_set (i := 4) nd rfl (.inl rfl) (pe_ix (r := rIxD K w) ix_kdict (pe_glob (v := .ref aF) (by rfl) gF rfl) (pv 2) (fun _ _ => rfl)))
      (pss_cons (ps_if (pt_cmpR op_ne (pe_callB call_len_seq (by rfl) T.mlen PySem.boot_len (pa_cons (pv 3) pa_nil)) (pe_callB call_len_seq (by rfl) T.mlen PySem.boot_len (pa_cons (pv 4) pa_nil)) (nomark _)) (pss_one (ps_ret pe_bl)) pss_nil)
      (pss_one (ps_ret (pe_callB (cr_all rfl) (by rfl) T.mall (by decide +kernel) (pa_cons (pe_lc (own := [("kind", 5), ("item", 6)]) (g := gTup K 2 (gCons (gName 5) (gCons (gName 6) gNil))) (tt := tYes) rfl nd (WZip.pi_zm rfl mzip (pa_cons (pv 4) (pa_cons (pv 3) pa_nil))) (blkOk_by (N := deedN) (sc := defScope sDeed) (by decide +kernel))
        (fun _ _ _ _ _ => pg_tup rfl (pgs_cons (pg_name (i := 5) nd rfl (.inl rfl)) (pgs_cons (pg_name (i := 6) nd rfl (.inl rfl)) pgs_nil))) (fun _ _ _ _ _ => pts_nil)
        (fun _ _ _ _ _ => pe_call GF hr (by rfl) gFi kF bF .nil pass0 (pa_cons (pv 0) (pa_cons (pv 5) (pa_cons (pv 6) (pa_cons (pe_ix (r := rIx K) ix_seq (pv 3) pe_int (fun _ _ => rfl)) pa_nil)))))) pa_nil)))))))), ?_⟩
    have ty := ty_data hv
    obtain ⟨b1, e1⟩ : ∃ b, kitB (tyD d) "tuple" = some b := by cases d <;> exact ⟨_, rfl⟩
    refine ⟨v, rfl, v, .ty "tuple", _, _, b1, rfl, .ty "tuple", ty, kit_ty e1, b1, rfl, ?_⟩
    cases b1 with
    | false =>
      have e : judgeB zs pl d = false := by
        cases hv with
        | tup _ _ => exact absurd (show kitB "tuple" "tuple" = some false from e1) (by decide +kernel)
        | _ => rfl
      have q := q H (Same.refl H)
      rw [e] at q
      exact iteT (iteT q)
    | true =>
      cases hv with
      | non => exact absurd (show kitB "NoneType" "tuple" = some true from e1) (by decide +kernel)
      | bl b => exact absurd (show kitB "bool" "tuple" = some true from e1) (by decide +kernel)
      | int i => exact absurd (show kitB "int" "tuple" = some true from e1) (by decide +kernel)
      | str z => exact absurd (show kitB "str" "tuple" = some true from e1) (by decide +kernel)
      | lst _ _ => exact absurd (show kitB "list" "tuple" = some true from e1) (by decide +kernel)
      | @tup a xs ds ha hds =>
        obtain ⟨h5, hsh⟩ := hd ds rfl
        refine iteF ⟨.ref a, rfl, !xs.isEmpty, .inr (.inl ⟨xs, ha, rfl⟩), ?_⟩
        cases hds with
        | nil => exact iteT (q H (Same.refl H))
        | @cons x0 xs' d0 ds' h0 hr' =>
          refine iteF ⟨.ref a, rfl, a, x0, xs', rfl, ha, fun D nD => ?_⟩
          have s1 := same_upd (o := .lst xs') nD
          have hD : (upd H D (.lst xs')) D = some (.lst xs') := upd_same
          generalize upd H D (.lst xs') = H1 at *
          have q1 := q H1 s1
          have ty0 := ty_data (dp_same s1 h0)
          obtain ⟨b2, e2⟩ : ∃ b, kitB (tyD d0) "str" = some b := by cases d0 <;> exact ⟨_, rfl⟩
          refine ⟨x0, rfl, x0, .ty "str", _, _, b2, rfl, .ty "str", ty0, kit_ty e2, b2, rfl, ?_⟩
          cases b2 with
          | false =>
            have e : judgeB zs pl (.tuple (d0 :: ds')) = false := by
              cases h0 with
              | str z => exact absurd (show kitB "str" "str" = some false from e2) (by decide +kernel)
              | _ => rfl
            rw [e] at q1
            exact iteT (iteT q1)
          | true =>
            cases h0 with
            | non => exact absurd (show kitB "NoneType" "str" = some true from e2) (by decide +kernel)
            | bl b => exact absurd (show kitB "bool" "str" = some true from e2) (by decide +kernel)
            | int i => exact absurd (show kitB "int" "str" = some true from e2) (by decide +kernel)
            | lst _ _ => exact absurd (show kitB "list" "str" = some true from e2) (by decide +kernel)
            | tup _ _ => exact absurd (show kitB "tuple" "str" = some true from e2) (by decide +kernel)
            | str z =>
              have ej : judgeB zs pl (.tuple (.str z :: ds')) = match kindsOf z with
                | some ks => decide (ds'.length = ks.length) && (ks.zip ds').all fun p => fitsB zs pl p.1 p.2 (ds'.getD 0 .none)
                | none => false := rfl
              rw [ej] at q1
              cases hk : kindsOf z with
              | none =>
                rw [hk] at q1
                exact iteF ⟨.str z, rfl, z, aF, false, rfl, rfl, FM.no z hk, _, rfl, iteT q1⟩
              | some ks =>
                rw [hk] at q1
                obtain ⟨has, p, kd, tk⟩ := FM.yes z ks hk
                obtain ⟨k1, k4⟩ := kinds_len hk
                have lx : xs'.length = ds'.length := dpAll_len hr'
                refine iteF ⟨.str z, rfl, z, aF, true, rfl, rfl, has, _, rfl, iteF ?_⟩
                refine ⟨.str z, rfl, aF, z, .ref p, rfl, rfl, kd, ?_⟩
                refine ⟨.ref D, rfl, D, xs', rfl, .inl (.of hD), .ref p, rfl, p, ks.map V.str, rfl, .inr (tk _), rfl, _, rfl, ?_⟩
                by_cases hl : ds'.length = ks.length
                · have e9 : (!decide (V.int (xs'.length : Nat) = V.int ((ks.map V.str).length : Nat))) = false := by
                    rw [decide_eq_true (by rw [lx, hl, List.length_map])]
                    rfl
                  rw [e9]
                  refine iteF ⟨.ref p, rfl, .ref D, rfl, p, D, ks.map V.str, xs', rfl, tk _, .of hD, fun Dc nDc => ?_⟩
                  have hlen : (ks.map V.str).length = xs'.length := by rw [List.length_map, lx, hl]
                  refine lc_it (WZip.walk_zm (K := K) (a := p) (b := D) hlen) (fun i H2 => Same H1 H2 ∧ H2 Dc = some (.lst ((((ks.zip ds').map fun p => fitsB zs pl p.1 p.2 (ds'.getD 0 .none)).take i).map V.bl))) ⟨same_upd nDc, upd_same⟩ ?_ ?_ ?_
                  · rintro i H2 hi ⟨s2, _⟩
                    exact ⟨tk _, s2.seq (.of hD)⟩
                  · rintro i y H2 H3 hi ⟨s2, hDc⟩ ⟨T', x', z', rfl, nT, rfl, f1, f2⟩
                    have hik : i < ks.length := by rw [List.length_map] at hi; exact hi
                    have hid : i < ds'.length := by omega
                    have f1 : (ks.map V.str)[i]? = some x' := f1
                    have f2 : xs'[i]? = some z' := f2
                    rw [List.getElem?_map, List.getElem?_eq_getElem hik] at f1
                    have ex := Option.some.inj f1
                    have ex : V.str ks[i] = x' := ex
                    subst ex
                    obtain ⟨z2, g2, dz⟩ := dpAll_get hr' (i := i) (d := ds'[i]) (List.getElem?_eq_getElem hid)
                    rw [f2] at g2
                    have ez := Option.some.inj g2
                    subst ez
                    obtain ⟨z0, g0, dz0⟩ := dpAll_get hr' (i := 0) (d := ds'[0]'(by omega)) (List.getElem?_eq_getElem (by omega))
                    have sT := same_upd (o := .tup [V.str ks[i], z']) nT
                    have s13 := (s1.trans s2).trans sT
                    have e0 : ds'.getD 0 .none = ds'[0]'(by omega) := by rw [List.getD_eq_getElem?_getD, List.getElem?_eq_getElem (show 0 < ds'.length by omega)]; rfl
                    refine ⟨T', _, rfl, .of upd_same, rfl, _, _, rfl, _, _, rfl, rfl, rfl, ?_⟩
                    unfold tYes
                    refine iteT ⟨.ref x, rfl, .str ks[i], rfl, z', rfl, .ref D, rfl, ixL (n := 0) ((s2.trans sT).seq (.of hD)) g0 ?_⟩
                    refine ⟨x, ks[i], z', z0, ds'[i], ds'[0]'(by omega), zs, pl, rfl, hx.same s13, dp_same s13 dz, dp_same s13 dz0, hsh _ (List.mem_cons_of_mem _ (List.getElem_mem hid)), hsh _ (List.mem_cons_of_mem _ (List.getElem_mem (by omega))), ?_⟩
                    refine ⟨_, sT _ _ hDc, ?_, fun b o e => ?_, ?_⟩
                    · rw [List.length_map, List.length_take]
                      exact small500 (by omega)
                    · rw [upd_ne (ne_of_none e nDc)]
                      exact sT _ _ (s2 b o e)
                    · have hz : i < ((ks.zip ds').map fun p => fitsB zs pl p.1 p.2 (ds'.getD 0 .none)).length := by simp; omega
                      rw [upd_same, List.take_succ_eq_append_getElem hz, List.map_append]
                      congr 3
                      simp [List.getElem?_eq_getElem (show 0 < ds'.length by omega)]
                  · rintro H2 ⟨s2, hDc⟩
                    rw [List.take_of_length_le (by simp; omega)] at hDc
                    refine ⟨Dc, _, rfl, .of hDc, ?_⟩
                    have q2 := q H2 (s1.trans s2)
                    rw [ej, hk] at q2
                    have q2 : Q (.bl (decide (ds'.length = ks.length) && (ks.zip ds').all fun p => fitsB zs pl p.1 p.2 (ds'.getD 0 .none))) H2 := q2
                    rw [decide_eq_true hl, Bool.true_and] at q2
                    rw [List.all_map]
                    exact q2
                · have e9 : (!decide (V.int (xs'.length : Nat) = V.int ((ks.map V.str).length : Nat))) = true := by
                    rw [decide_eq_false fun e => hl (by have := V.int.inj e; rw [List.length_map] at this; omega)]
                    rfl
                  rw [e9]
                  have q1 : Q (.bl (decide (ds'.length = ks.length) && (ks.zip ds').all fun p => fitsB zs pl p.1 p.2 (ds'.getD 0 .none))) H1 := q1
                  rw [decide_eq_false hl, Bool.false_and] at q1
                  exact iteT q1
end
end KT

namespace KT
open PySem PySem.Spec PyProof.Rows L2
def natD (n : Nat) : PyData := .int n
def nvs (cs : List Nat) : List V := cs.map fun n => V.int (n : Nat)
section
variable {K : PySem.W.Frag} {H : Hp}
theorem dpAll_app : ∀ {xs : List V} {ds : List PyData} {v : V} {d : PyData}, DpAll K H xs ds → Dp K H v d → DpAll K H (xs ++ [v]) (ds ++ [d])
  | _, _, _, _, .nil, h => .cons h .nil
  | _, _, _, _, .cons a b, h => .cons a (dpAll_app b h)
end
inductive NoL : PyData → Prop
  | non : NoL .none
  | bl (b : Bool) : NoL (.bool b)
  | int (i : Int) : NoL (.int i)
  | str (z : Str) : NoL (.str z)
  | tup {ds : List PyData} (h : ∀ d ∈ ds, NoL d) : NoL (.tuple ds)
section
variable {K : PySem.W.Frag} {H H' : Hp} {D : Addr} {acc : List V}
/-- no tuple lies there -/
def NT (H : Hp) (D : Addr) : Prop := ∀ u, H D = some u → (∀ xs, u ≠ .tup xs) ∧ ∀ o xs, u ≠ .frz o (.tup xs)
theorem NT.lst (hD : H D = some (.lst acc)) : NT H D := fun u e => by
  rw [hD] at e
  cases e
  exact ⟨fun _ z => (by cases z), fun _ _ z => (by cases z)⟩
theorem NT.ins {C dx : Addr} {fs : List (Str × V)} (hD : H D = some (.ins C dx fs)) : NT H D := fun u e => by
  rw [hD] at e
  cases e
  exact ⟨fun _ z => (by cases z), fun _ _ z => (by cases z)⟩
theorem but_seqT (hD : NT H D) (b : But D H H') {a : Addr} {xs : List V} (h : SqT K H a xs) : SqT K H' a xs := by
  rcases h with (h | ⟨o, h⟩) | h
  · refine .inl (.inl (b _ _ h fun e => ?_))
    rw [e] at h
    exact (hD _ h).1 _ rfl
  · refine .inl (.inr ⟨o, b _ _ h fun e => ?_⟩)
    rw [e] at h
    exact (hD _ h).2 _ _ rfl
  · exact .inr h
mutual
theorem dp_but (hD : NT H D) (b : But D H H') : ∀ {v : V} {d : PyData}, NoL d → Dp K H v d → Dp K H' v d
  | _, _, _, .non => .non
  | _, _, _, .bl b => .bl b
  | _, _, _, .int i => .int i
  | _, _, _, .str x => .str x
  | _, _, n, .lst _ _ => nomatch n
  | _, _, .tup n, .tup h1 h2 => .tup (but_seqT hD b h1) (dpAll_but hD b n h2)
theorem dpAll_but (hD : NT H D) (b : But D H H') : ∀ {vs : List V} {ds : List PyData}, (∀ d ∈ ds, NoL d) → DpAll K H vs ds → DpAll K H' vs ds
  | _, _, _, .nil => .nil
  | _, _, n, .cons h1 h2 => .cons (dp_but hD b (n _ List.mem_cons_self) h1) (dpAll_but hD b (fun d hd => n d (List.mem_cons_of_mem _ hd)) h2)
end
/-- one more item in the list under way -/
theorem dpAll_push {xs : List V} {ds : List PyData} {v : V} {d : PyData} {o : HO} (hD : H D = some (.lst acc)) (n : ∀ x ∈ ds ++ [d], NoL x) (h1 : DpAll K H xs ds) (h2 : Dp K H v d) : DpAll K (upd H D o) (xs ++ [v]) (ds ++ [d]) :=
  dpAll_app (dpAll_but (.lst hD) But.upd (fun x hx => n x (List.mem_append_left _ hx)) h1) (dp_but (.lst hD) But.upd (n d (List.mem_append_right _ (List.mem_singleton.mpr rfl))) h2)
end
/-! ### comprehensions whose items are data, ints among them -/
section
variable {J : It} {n : Nat} {G : Hp → Prop} {Y : Nat → Hp → V → Hp → Prop} {K : PySem.W.Frag}
theorem fm_succ {β : Type} (f : Nat → Option β) (i : Nat) : (List.range (i + 1)).filterMap f = (List.range i).filterMap f ++ (f i).toList := by
  rw [List.range_succ, List.filterMap_append]
  cases h : f i <;> simp [h]
theorem fm_len {β : Type} (f : Nat → Option β) (i : Nat) : ((List.range i).filterMap f).length ≤ i := by
  have := List.length_filterMap_le f (List.range i)
  rw [List.length_range] at this
  exact this
/-- one list under way: what it holds by the turn; the items are data without lists -/
theorem lc_data (w : Walk J n G Y) {Yx : Nat → V → Prop} (hy : ∀ i H x H', Y i H x H' → H' = H ∧ Yx i x) {g : TG} {tt : TT} {te : TE} {vs : List Nat} {σ : L2.St} {H : Hp} {D : Addr} {Qd : Hp → Prop} (f : Nat → Option PyData)
    (nol : ∀ i, i < n → ∀ d, f i = some d → NoL d) (n5 : n ≤ 500) (nD : H D = none) (hG : ∀ H2, Same H H2 → G H2)
    (hs : ∀ i x H2 (Kc : VK) (Kn : Hp → Prop), i < n → Same H H2 → Yx i x → (∀ y H3 d, f i = some d → Same H2 H3 → Dp K H3 y d → Kc y H3) → (∀ H3, f i = none → Same H2 H3 → Kn H3) →
      g x (wipe σ vs) H2 fun σ2 H4 => wipe σ2 vs = wipe σ vs ∧ tt σ2 H4 fun b H5 => if b = true then te σ2 H5 Kc else Kn H5)
    (hd : ∀ H2 acc, Same H H2 → H2 D = some (.lst acc) → DpAll K H2 acc ((List.range n).filterMap f) → Qd H2) :
    ∃ W : Nat → Nat → Hp → Prop, (∃ m, W 0 m (upd H D (.lst []))) ∧ ∀ i m H, W i m H →
      (J.stop i H ∧ Qd H) ∨ (J.go i H ∧ ∃ Nx : Hp → Prop, (∀ H', Nx H' → ∃ m', m' < m ∧ W (i + 1) m' H') ∧ ∀ x H', J.yld i H x H' → g x (wipe σ vs) H' fun σ2 H2 => wipe σ2 vs = wipe σ vs ∧ tt σ2 H2 fun b H3 =>
        if b = true then te σ2 H3 fun y H4 => ∃ acc, H4 D = some (.lst acc) ∧ acc.length < sizeLine ∧ Nx (upd H4 D (.lst (acc ++ [y]))) else Nx H3) := by
  have nl : ∀ i, i ≤ n → ∀ d ∈ (List.range i).filterMap f, NoL d := fun i hi d hd => by
    obtain ⟨a, ha, e⟩ := List.mem_filterMap.mp hd
    have := List.mem_range.mp ha
    exact nol a (by omega) d e
  refine lc_it w (fun i H2 => Same H H2 ∧ ∃ acc, H2 D = some (.lst acc) ∧ DpAll K H2 acc ((List.range i).filterMap f)) ⟨same_upd nD, [], upd_same, .nil⟩ (fun i H2 _ h => hG H2 h.1) ?_ (fun H2 ⟨s2, acc, a, b⟩ => hd H2 acc s2 a b)
  rintro i x H2 H3 hi ⟨s2, acc, hD, hacc⟩ y
  obtain ⟨rfl, yx⟩ := hy _ _ _ _ y
  refine hs i x H3 _ _ hi s2 yx (fun y H4 d e s3 hy4 => ⟨acc, s3 _ _ hD, ?_, fun a u e2 => ?_, _, upd_same, ?_⟩) (fun H4 e s3 => ⟨s2.trans s3, acc, s3 _ _ hD, ?_⟩)
  · rw [dpAll_len hacc]
    have := fm_len f i
    exact small500 (by omega)
  · rw [upd_ne (ne_of_none e2 nD)]
    exact s3 _ _ (s2 _ _ e2)
  · have e2 : (f i).toList = [d] := by rw [e]; rfl
    rw [fm_succ, e2]
    refine dpAll_push (s3 _ _ hD) ?_ (dpAll_same s3 hacc) hy4
    have := nl (i + 1) hi
    rw [fm_succ, e2] at this
    exact this
  · have e2 : (f i).toList = [] := by rw [e]; rfl
    rw [fm_succ, e2, List.append_nil]
    exact dpAll_same s3 hacc
theorem fm_some {β : Type} (h : Nat → β) (n : Nat) : (List.range n).filterMap (fun i => some (h i)) = (List.range n).map h := by
  rw [List.filterMap_eq_map']
theorem fm_if {β : Type} (p : Nat → Bool) (h : Nat → β) (n : Nat) : (List.range n).filterMap (fun i => if p i = true then some (h i) else none) = ((List.range n).filter p).map h := by
  induction n with
  | zero => rfl
  | succ n ih =>
    rw [fm_succ, ih, List.range_succ, List.filter_append, List.map_append]
    congr 1
    by_cases hp : p n = true <;> simp [hp]
end
theorem y_at {xs : List V} : ∀ i H x H', YAt xs i H x H' → H' = H ∧ xs[i]? = some x := fun _ _ _ _ h => h
theorem y_fn {f : Nat → V} : ∀ i H x H', YFn f i H x H' → H' = H ∧ x = f i := fun _ _ _ _ h => h
theorem yes {σ : L2.St} {H : Hp} {k : Bool → Hp → Prop} (h : k true H) : tYes σ H k := h
theorem fm_bind {α β : Type} (l : List α) (p : α → Bool) (g : α → β) : ∀ n, (List.range n).filterMap (fun k => l[k]?.bind fun a => if p a = true then some (g a) else none) = ((l.take n).filter p).map g
  | 0 => rfl
  | n + 1 => by
    rw [fm_succ, fm_bind l p g n, List.take_add_one, List.filter_append, List.map_append]
    congr 1
    cases h : l[n]? with
    | none => rfl
    | some a =>
      by_cases hp : p a = true <;> simp [hp]
end KT

namespace KT
open PySem PySem.Spec PyProof.Rows L2
abbrev sDeeds : Stmt := top 34
abbrev ldN : List Str := ["_law_ground_here", "_law_found", "_law_names_here", "_law_places_z", "_law_word", "_law_name", "_law_place", "_law_one", "_law_far", "_law_goal"]
theorem scDeeds : FnScope ["_law_ground_here", "_law_found", "_law_names_here", "_law_places_z", "_law_word", "_law_name", "_law_place", "_law_one", "_law_far", "_law_goal"] ["_law_ground_here"] (defScope sDeeds) := ⟨rfl, rfl, rfl, by decide +kernel, rfl, by decide +kernel, by decide +kernel⟩
abbrev Items := List PyData
def wD (z : Str) : PyData := .str z
/-- the deeds of the three parts of the table -/
def rowA (pl : Nat) (w n : Str) : List Items := (List.range pl).map fun p => [.str w, .str n, natD p]
def rowB (pl : Nat) (n f : Str) (p : Nat) : List Items := (List.range pl).map fun g => [.str "pick", .str n, .str f, natD p, natD g]
def rowC (zs : List Str) (w n : Str) : List Items := if w = "pass" then [[.str w, .str n]] else if w = "mean" then [[.str w, .str n, .str "in"], [.str w, .str n, .str "out"]] else (zs.filter fun f => !decide (f = n)).map fun f => [.str w, .str n, .str f]
def deedsA (zs : List Str) (pl : Nat) : List Items := (["make", "restore", "drop"] : List Str).flatMap fun w => zs.flatMap fun n => rowA pl w n
def deedsB (zs : List Str) (pl : Nat) : List Items := zs.flatMap fun n => (zs.filter fun f => !decide (f = n)).flatMap fun f => (List.range pl).flatMap fun p => rowB pl n f p
def deedsC (zs : List Str) : List Items := (["merge", "squash", "pass", "hear", "mean"] : List Str).flatMap fun w => zs.flatMap fun n => rowC zs w n
def deedsL (zs : List Str) (pl : Nat) : List Items := deedsA zs pl ++ deedsB zs pl ++ deedsC zs
abbrev rLstOf (K : PySem.W.Frag) : List V → Hp → VK → Prop := fun xs H Q => ∃ p ys, xs = [.ref p] ∧ (SqL K H p ys ∨ SqT K H p ys) ∧ ∀ l, H l = none → Q (.ref l) (upd H l (.lst ys))
/-- a list under way: new since H0, deeds -/
def Und (K : PySem.W.Frag) (H0 H : Hp) (l : Addr) (D : List Items) : Prop := H0 l = none ∧ Same H0 H ∧ ∃ acc, H l = some (.lst acc) ∧ DpAll K H acc (D.map PyData.tuple)
theorem dpAll_app2 {K : PySem.W.Frag} {H : Hp} : ∀ {xs ys : List V} {ds es : List PyData}, DpAll K H xs ds → DpAll K H ys es → DpAll K H (xs ++ ys) (ds ++ es)
  | _, _, _, _, .nil, h => h
  | _, _, _, _, .cons a b, h => .cons a (dpAll_app2 b h)
theorem flat_len {α β : Type} {f : α → List β} {c : Nat} : ∀ {l : List α}, (∀ a ∈ l, (f a).length ≤ c) → (l.flatMap f).length ≤ l.length * c
  | [], _ => by simp
  | a :: l, h => by
    have h1 := h a List.mem_cons_self
    have h2 := flat_len (l := l) fun b hb => h b (List.mem_cons_of_mem a hb)
    rw [List.flatMap_cons, List.length_append, List.length_cons, Nat.succ_mul]
    omega
theorem flat_take {α β : Type} {f : α → List β} {l : List α} {i : Nat} (h : i < l.length) : (l.take (i + 1)).flatMap f = (l.take i).flatMap f ++ f l[i] := by
  rw [List.take_add_one, List.getElem?_eq_getElem h, List.flatMap_append]
  simp
theorem flat_takel {α β : Type} {f : α → List β} {l : List α} {i c : Nat} (h : ∀ a ∈ l, (f a).length ≤ c) : ((l.take i).flatMap f).length ≤ l.length * c := by
  refine Nat.le_trans (flat_len (c := c) fun a ha => h a (List.mem_of_mem_take ha)) (Nat.mul_le_mul_right c ?_)
  rw [List.length_take]
  exact Nat.min_le_right _ _
theorem nol_items {x : Items} (h : ∀ d ∈ x, NoL d) : NoL (.tuple x) := .tup h
/-- the def between two of its steps -/
structure DS (K : PySem.W.Frag) (H0 : Hp) (N PL : Addr) (zs : List Str) (pl : Nat) (G : Hp) (l : Addr) (D : List Items) : Prop where
  und : Und K H0 G l D
  nol : ∀ x ∈ D, NoL (.tuple x)
  hN : G N = some (.lst (zs.map V.str))
  hP : G PL = some (.lst (rgV 0 pl))
  nN : l ≠ N
  nP : l ≠ PL
section
variable {K : PySem.W.Frag} {H0 G G2 : Hp} {N PL l e : Addr} {zs : List Str} {pl : Nat} {D E : List Items}
theorem DS.same (S : DS K H0 N PL zs pl G l D) (s : Same G G2) : DS K H0 N PL zs pl G2 l D := by
  obtain ⟨a, b, acc, c, d⟩ := S.und
  exact ⟨⟨a, b.trans s, acc, s _ _ c, dpAll_same s d⟩, S.nol, s _ _ S.hN, s _ _ S.hP, S.nN, S.nP⟩
theorem DS.cat {Q : VK} {acc2 : List V} (S : DS K H0 N PL zs pl G l D) (he : G e = some (.lst acc2)) (hd : DpAll K G acc2 (E.map PyData.tuple)) (hE : ∀ x ∈ E, NoL (.tuple x)) (few : D.length + E.length ≤ 500) (h0 : Same H0 G)
    (go : ∀ q G2, Same G G2 → DS K H0 N PL zs pl G2 q (D ++ E) → Q (.ref q) G2) : rCat (.ref l) (.ref e) G Q := by
  obtain ⟨a, b, acc, c, d⟩ := S.und
  have l1 := dpAll_len d
  have l2 := dpAll_len hd
  rw [List.length_map] at l1 l2
  refine ⟨l, e, acc, acc2, rfl, rfl, c, he, by rw [l1, l2]; exact Nat.le_of_lt (small500 few), fun q nq => go q _ (same_upd nq) ?_⟩
  have s := same_upd (o := .lst (acc ++ acc2)) nq
  refine ⟨⟨h0.free nq, h0.trans s, _, upd_same, ?_⟩, fun x hx => (List.mem_append.mp hx).elim (S.nol x) (hE x), s _ _ S.hN, s _ _ S.hP, (fun z => by rw [z, S.hN] at nq; cases nq), (fun z => by rw [z, S.hP] at nq; cases nq)⟩
  rw [List.map_append]
  exact dpAll_app2 (dpAll_same s d) (dpAll_same s hd)
end
section
variable {P : Program} {w : World} {K : PySem.W.Frag} {mg : Str → Option Value} {base : Heap}
def spDeeds (K : PySem.W.Frag) : Sp := fun vs H Q _ => ∃ (g n : Addr) (zs : List Str) (pl : Nat) (tb wd : Str), vs = [.ref g] ∧ SqT K H g [.ref n, .int pl, .str tb, .str wd] ∧ SqT K H n (zs.map V.str) ∧ zs.length ≤ 3 ∧ pl ≤ 2 ∧ ∀ H' l, Und K H H' l (deedsL zs pl) → Q (.ref l) H'
theorem ok_deeds {f : Addr} {fd : FuncData} {k : Nat} (F : Fun K "_law_deeds" "_law_deeds" sDeeds f fd) (T : Blt mg) (ml : mg "list" = none) : FnOk P w K mg base CX0 (k + 1) f fd ["_law_ground_here"] (spDeeds K) := by
  refine F.ok scDeeds (fun vs H Q E h => ?_) (fun cdv A outer s H vs Q E hr h => ?_)
  · obtain ⟨g, n, zs, pl, tb, wd, rfl, _⟩ := h
    rfl
  · obtain ⟨g, n, zs, pl, tb, wd, rfl, hg, hn, lz, lp, q⟩ := h
    have nd := scDeeds.nd
    refine ⟨_, (pss_cons (ps_set (i := 1) nd rfl (.inl rfl) (pe_lst pa_nil))
      (pss_cons (ps_par (i := 2) (j := 3) rfl nd rfl rfl (by decide) rfl rfl (pa_cons (pe_callTy (r := rLstOf K) call_list_of (by rfl) ml (by decide +kernel) (pa_cons (pe_ix (r := rIx K) ix_seq (pv 0) pe_int (fun _ _ => rfl)) pa_nil)) (pa_cons (pe_listRg rfl (by rfl) ml (prg_1 (by rfl) T.mrange (pe_ix (r := rIx K) ix_seq (pv 0) pe_int (fun _ _ => rfl)))) pa_nil)) (by rfl))
      (pss_cons (ps_for PassesOwn.never rfl (pi_tup (pe_tup (pa_cons pe_str (pa_cons pe_str (pa_cons pe_str pa_nil))))) (pg_name (i := 4) nd rfl (.inr rfl)) (pss_one (ps_for PassesOwn.never rfl (pi_list (pv 2)) (pg_name (i := 5) nd rfl (.inr rfl)) (pss_one (ps_set (i := 1) nd rfl (.inl rfl) (pe_op op_cat (pv 1) (pe_lc (own := [("_law_place", 6)]) (g := gName 6) (tt := tYes) rfl nd (pi_list (pv 3)) (blkOk_by (N := ldN) (sc := defScope sDeeds) (by decide +kernel)) (fun _ _ _ _ _ => pg_name (i := 6) nd rfl (.inl rfl)) (fun _ _ _ _ _ => pts_nil) (fun _ _ _ _ _ => (pe_tup (pa_cons (pv 4) (pa_cons (pv 5) (pa_cons (pv 6) pa_nil))))))))))))
      (pss_cons (ps_for PassesOwn.never rfl (pi_list (pv 2)) (pg_name (i := 5) nd rfl (.inr rfl)) (pss_one (ps_for PassesOwn.never rfl (pi_list (pe_lc (own := [("_law_one", 7)]) (g := gName 7) (tt := tTest (tOp rNe (tVar 7) (tVar 5))) (te := tVar 7) rfl nd (pi_list (pv 2)) (blkOk_by (N := ldN) (sc := defScope sDeeds) (by decide +kernel)) (fun _ _ _ _ _ => pg_name (i := 7) nd rfl (.inl rfl)) (fun _ _ _ _ _ => pts_one (pt_cmpR op_ne (pv 7) (pv 5) (nomark _))) (fun _ _ _ _ _ => (pv 7)))) (pg_name (i := 8) nd rfl (.inr rfl)) (pss_one (ps_for PassesOwn.never rfl (pi_list (pv 3)) (pg_name (i := 6) nd rfl (.inr rfl)) (pss_one (ps_set (i := 1) nd rfl (.inl rfl) (pe_op op_cat (pv 1) (pe_lc (own := [("_law_goal", 9)]) (g := gName 9) (tt := tYes) rfl nd (pi_list (pv 3)) (blkOk_by (N := ldN) (sc := defScope sDeeds) (by decide +kernel)) (fun _ _ _ _ _ => pg_name (i := 9) nd rfl (.inl rfl)) (fun _ _ _ _ _ => pts_nil) (fun _ _ _ _ _ => (pe_tup (pa_cons pe_str (pa_cons (pv 5) (pa_cons (pv 8) (pa_cons (pv 6) (pa_cons (pv 9) pa_nil))))))))))))))))
      (pss_cons (ps_for PassesOwn.never rfl (pi_tup (pe_tup (pa_cons pe_str (pa_cons pe_str (pa_cons pe_str (pa_cons pe_str (pa_cons pe_str pa_nil))))))) (pg_name (i := 4) nd rfl (.inr rfl)) (pss_one (ps_for PassesOwn.never rfl (pi_list (pv 2)) (pg_name (i := 5) nd rfl (.inr rfl)) (pss_one (ps_if (pt_cmpR op_eq (pv 4) pe_str (nomark _)) (pss_one (ps_expr (pe_bm PySem.F.plainAttrs_list PySem.F.slot_list_append PySem.F.type_list_append mt_append (pv 1) (pa_cons (pe_tup (pa_cons (pv 4) (pa_cons (pv 5) pa_nil))) pa_nil)))) (pss_one (ps_if (pt_cmpR op_eq (pv 4) pe_str (nomark _)) (pss_one (ps_set (i := 1) nd rfl (.inl rfl) (pe_op op_cat (pv 1) (pe_lst (pa_cons (pe_tup (pa_cons (pv 4) (pa_cons (pv 5) (pa_cons pe_str pa_nil)))) (pa_cons (pe_tup (pa_cons (pv 4) (pa_cons (pv 5) (pa_cons pe_str pa_nil)))) pa_nil)))))) (pss_one (ps_set (i := 1) nd rfl (.inl rfl) (pe_op op_cat (pv 1) (pe_lc (own := [("_law_far", 8)]) (g := gName 8) (tt := tTest (tOp rNe (tVar 8) (tVar 5))) rfl nd (pi_list (pv 2)) (blkOk_by (N := ldN) (sc := defScope sDeeds) (by decide +kernel)) (fun _ _ _ _ _ => pg_name (i := 8) nd rfl (.inl rfl)) (fun _ _ _ _ _ => pts_one (pt_cmpR op_ne (pv 8) (pv 5) (nomark _))) (fun _ _ _ _ _ => (pe_tup (pa_cons (pv 4) (pa_cons (pv 5) (pa_cons (pv 8) pa_nil))))))))))))))))
      (pss_one (ps_ret (pv 1)))))))), ?_⟩
    have nolA : ∀ w n, ∀ x ∈ rowA pl w n, NoL (.tuple x) := fun w n x hx => by
      obtain ⟨p, _, rfl⟩ := List.mem_map.mp hx
      exact .tup fun d hd => by
        rcases List.mem_cons.mp hd with rfl | hd
        · exact .str _
        rcases List.mem_cons.mp hd with rfl | hd
        · exact .str _
        · rw [List.mem_singleton.mp hd]
          exact .int _
    have lenA : ∀ w n, (rowA pl w n).length ≤ 2 := fun w n => by unfold rowA; rw [List.length_map, List.length_range]; exact lp
    refine ⟨by show 0 ≤ sizeLine; decide, fun l0 nl0 => ?_⟩
    have s1 := same_upd (o := .lst ([] : List V)) nl0
    have hl0 : (upd H l0 (.lst ([] : List V))) l0 = some (.lst []) := upd_same
    generalize upd H l0 (.lst ([] : List V)) = H1 at *
    refine ⟨.ref g, rfl, ixT (n := 0) (same_seqT s1 hg) rfl ⟨n, zs.map V.str, rfl, .inr (same_seqT s1 hn), fun N nN => ?_⟩⟩
    have s2 := same_upd (o := .lst (zs.map V.str)) nN
    have hN : (upd H1 N (.lst (zs.map V.str))) N = some (.lst (zs.map V.str)) := upd_same
    generalize upd H1 N (.lst (zs.map V.str)) = H2 at *
    refine ⟨.ref g, rfl, ixT (n := 1) (same_seqT (s1.trans s2) hg) rfl ⟨pl, rfl, RgOk.of_le (by omega) (by omega) (by omega) (by omega), fun PL nPL => ⟨_, _, rfl, ?_⟩⟩⟩
    have s3 := same_upd (o := .lst (rgV 0 pl)) nPL
    have hP : (upd H2 PL (.lst (rgV 0 pl))) PL = some (.lst (rgV 0 pl)) := upd_same
    have S0 : DS K H N PL zs pl (upd H2 PL (.lst (rgV 0 pl))) l0 [] := by
      refine ⟨⟨nl0, (s1.trans s2).trans s3, [], s3 _ _ (s2 _ _ hl0), .nil⟩, fun x hx => (nomatch hx), s3 _ _ hN, hP, (fun z => by rw [← z, hl0] at nN; cases nN), (fun z => by rw [← z, s2 _ _ hl0] at nPL; cases nPL)⟩
    generalize upd H2 PL (.lst (rgV 0 pl)) = H3 at *
    -- the first part
    refine ⟨by show 3 ≤ sizeLine; decide, fun t3 nt3 => ?_⟩
    have S1 := S0.same (same_upd (o := .tup [V.str "make", V.str "restore", V.str "drop"]) nt3)
    have ht3 : (upd H3 t3 (.tup [V.str "make", V.str "restore", V.str "drop"])) t3 = some (.tup [V.str "make", V.str "restore", V.str "drop"]) := upd_same
    generalize upd H3 t3 (.tup [V.str "make", V.str "restore", V.str "drop"]) = H4 at *
    have rgat : ∀ {p : Nat} {z : V}, (rgV 0 pl)[p]? = some z → z = .int (p : Nat) := fun {p z} h => by
      unfold rgV at h
      rw [List.getElem?_map] at h
      obtain ⟨a, ha, rfl⟩ := Option.map_eq_some_iff.mp h
      obtain ⟨_, e⟩ := List.getElem?_eq_some_iff.mp ha
      rw [List.getElem_range] at e
      rw [← e]
      congr 1
      omega
    have rgl : (rgV 0 pl).length = pl := by rw [rgV_length]; omega
    have strat : ∀ {ws : List Str} {j : Nat} {z : V} (hj : j < ws.length), (ws.map V.str)[j]? = some z → z = .str ws[j] := fun {ws j z} hj h => by
      rw [List.getElem?_map, List.getElem?_eq_getElem hj] at h
      exact (Option.some.inj h).symm
    have lenAA : ∀ w, (zs.flatMap fun n => rowA pl w n).length ≤ 6 := fun w => Nat.le_trans (flat_len (c := 2) fun n _ => lenA w n) (by omega)
    refine ⟨t3, rfl, ⟨_, .of ht3⟩, ?_⟩
    refine for_it (walk_tup (K := K) (a := t3) (xs := (["make", "restore", "drop"] : List Str).map V.str)) (fun i σ G => ∃ (l : Addr) (y4 y5 y6 y7 y8 y9 : Option V), σ = [some (.ref g), some (.ref l), some (.ref N), some (.ref PL), y4, y5, y6, y7, y8, y9] ∧ DS K H N PL zs pl G l (((["make", "restore", "drop"] : List Str).take i).flatMap fun w => zs.flatMap fun n => rowA pl w n) ∧ G t3 = some (.tup [V.str "make", V.str "restore", V.str "drop"])) ⟨l0, _, _, _, _, _, _, rfl, S1, ht3⟩ (fun i σ G _ h => by obtain ⟨_, _, _, _, _, _, _, _, _, h⟩ := h; exact .of h) ?_ ?_
    · rintro i v σ G G' hi ⟨l, y4, y5, y6, y7, y8, y9, rfl, S, ht⟩ ⟨rfl, hv⟩
      have hi3 : i < (["make", "restore", "drop"] : List Str).length := by rw [List.length_map] at hi; exact hi
      obtain rfl := strat hi3 hv
      have few1 : (((["make", "restore", "drop"] : List Str).take i).flatMap fun w => zs.flatMap fun n => rowA pl w n).length ≤ 3 * 6 := flat_takel (c := 6) fun w _ => lenAA w
      rw [flat_take hi3]
      generalize (["make", "restore", "drop"] : List Str)[i] = w at *
      generalize (((["make", "restore", "drop"] : List Str).take i).flatMap fun w => zs.flatMap fun n => rowA pl w n) = pre at *
      refine ⟨.ref N, rfl, N, rfl, ⟨_, .of S.hN⟩, ?_⟩
      refine for_it (walk_list (K := K) (a := N) (xs := zs.map V.str)) (fun j σ G => ∃ (l : Addr) (y5 y6 y7 y8 y9 : Option V), σ = [some (.ref g), some (.ref l), some (.ref N), some (.ref PL), some (.str w), y5, y6, y7, y8, y9] ∧ DS K H N PL zs pl G l (pre ++ (zs.take j).flatMap fun n => rowA pl w n) ∧ G t3 = some (.tup [V.str "make", V.str "restore", V.str "drop"])) ⟨l, _, _, _, _, _, rfl, by rw [List.take_zero, List.flatMap_nil, List.append_nil]; exact S, ht⟩ (fun j σ G _ h => by obtain ⟨_, _, _, _, _, _, _, S, _⟩ := h; exact .of S.hN) ?_ ?_
      · rintro j v σ G G' hj ⟨l, y5, y6, y7, y8, y9, rfl, S, ht⟩ ⟨rfl, hv⟩
        have hjz : j < zs.length := by rw [List.length_map] at hj; exact hj
        obtain rfl := strat hjz hv
        have few2 : ((zs.take j).flatMap fun n => rowA pl w n).length ≤ zs.length * 2 := flat_takel (c := 2) fun n _ => lenA w n
        rw [flat_take hjz, ← List.append_assoc]
        refine ⟨.ref l, rfl, .ref PL, rfl, PL, rfl, ⟨_, .of S.hP⟩, fun e ne => ?_⟩
        refine lc_data (K := K) (walk_list (K := K) (a := PL) (xs := rgV 0 pl)) y_at (fun p => some (.tuple [.str w, .str zs[j], natD p])) (fun p hp d e => by rw [← Option.some.inj e]; exact nolA w zs[j] _ (List.mem_map.mpr ⟨p, List.mem_range.mpr (by omega), rfl⟩)) (by omega) ne (fun G2 s2 => .of (s2 _ _ S.hP)) ?_ ?_
        · intro p z G2 Kc Kn hp s2 hz kc _
          obtain rfl := rgat hz
          exact ⟨rfl, yes (iteT ⟨.str w, rfl, .str zs[j], rfl, .int (p : Nat), rfl, by show 3 ≤ sizeLine; decide, fun t nt => kc _ _ _ rfl (same_upd nt) (.tup (.of upd_same) (.cons (.str _) (.cons (.str _) (.cons (.int _) .nil))))⟩)⟩
        · intro G2 acc2 s2 he hacc2
          rw [fm_some, rgl] at hacc2
          refine DS.cat (S.same s2) he (E := rowA pl w zs[j]) (by unfold rowA; rw [List.map_map]; exact hacc2) (nolA w zs[j]) (by have := lenA w zs[j]; rw [List.length_append]; omega) (S.und.2.1.trans s2) fun q G3 s3 S3 => ⟨q, _, _, _, _, _, rfl, S3, (s2.trans s3) _ _ ht⟩
      · rintro σ G ⟨l, y5, y6, y7, y8, y9, rfl, S, ht⟩
        rw [List.length_map, List.take_length] at S
        exact ⟨l, _, _, _, _, _, _, rfl, S, ht⟩
    rintro σ G5 ⟨l1, y4, y5, y6, y7, y8, y9, rfl, SA, _⟩
    have SA : DS K H N PL zs pl G5 l1 (deedsA zs pl) := SA
    have fewA : (deedsA zs pl).length ≤ 18 := flat_len (c := 6) fun w _ => lenAA w
    -- the second part
    have strs_back : ∀ {G : Hp} {ys : List Str} {acc : List V}, DpAll K G acc (ys.map PyData.str) → acc = ys.map V.str := fun {G} => by
      intro ys
      induction ys with
      | nil => intro acc h; cases h; rfl
      | cons y ys ih =>
        intro acc h
        cases h with
        | cons h1 h2 =>
          cases h1
          rw [ih h2]
          rfl
    have lenB : ∀ n f p, (rowB pl n f p).length ≤ 2 := fun n f p => by unfold rowB; rw [List.length_map, List.length_range]; exact lp
    have nolB : ∀ n f p, ∀ x ∈ rowB pl n f p, NoL (.tuple x) := fun n f p x hx => by
      obtain ⟨q, _, rfl⟩ := List.mem_map.mp hx
      exact .tup fun d hd => by
        rcases List.mem_cons.mp hd with rfl | hd
        · exact .str _
        rcases List.mem_cons.mp hd with rfl | hd
        · exact .str _
        rcases List.mem_cons.mp hd with rfl | hd
        · exact .str _
        rcases List.mem_cons.mp hd with rfl | hd
        · exact .int _
        · rw [List.mem_singleton.mp hd]
          exact .int _
    have lenBP : ∀ n f, ((List.range pl).flatMap fun p => rowB pl n f p).length ≤ 4 := fun n f => Nat.le_trans (flat_len (c := 2) fun p _ => lenB n f p) (by rw [List.length_range]; omega)
    have lenBF : ∀ n, ((zs.filter fun f => !decide (f = n)).flatMap fun f => (List.range pl).flatMap fun p => rowB pl n f p).length ≤ 12 := fun n => by
      have a := List.length_filter_le (fun f => !decide (f = n)) zs
      have b := flat_len (l := zs.filter fun f => !decide (f = n)) (c := 4) fun f _ => lenBP n f
      omega
    refine ⟨.ref N, rfl, N, rfl, ⟨_, .of SA.hN⟩, ?_⟩
    refine for_it (walk_list (K := K) (a := N) (xs := zs.map V.str)) (fun j σ G => ∃ (l : Addr) (y4 y5 y6 y7 y8 y9 : Option V), σ = [some (.ref g), some (.ref l), some (.ref N), some (.ref PL), y4, y5, y6, y7, y8, y9] ∧ DS K H N PL zs pl G l (deedsA zs pl ++ (zs.take j).flatMap fun n => (zs.filter fun f => !decide (f = n)).flatMap fun f => (List.range pl).flatMap fun p => rowB pl n f p)) ⟨l1, _, _, _, _, _, _, rfl, by rw [List.take_zero, List.flatMap_nil, List.append_nil]; exact SA⟩ (fun j σ G _ h => by obtain ⟨_, _, _, _, _, _, _, _, S⟩ := h; exact .of S.hN) ?_ ?_
    · rintro j v σ G G' hj ⟨l, y4, y5, y6, y7, y8, y9, rfl, S⟩ ⟨rfl, hv⟩
      have hjz : j < zs.length := by rw [List.length_map] at hj; exact hj
      obtain rfl := strat hjz hv
      have few1 : ((zs.take j).flatMap fun n => (zs.filter fun f => !decide (f = n)).flatMap fun f => (List.range pl).flatMap fun p => rowB pl n f p).length ≤ zs.length * 12 := flat_takel (c := 12) fun n _ => lenBF n
      have few2 : (deedsA zs pl ++ (zs.take j).flatMap fun n => (zs.filter fun f => !decide (f = n)).flatMap fun f => (List.range pl).flatMap fun p => rowB pl n f p).length ≤ 54 := by rw [List.length_append]; omega
      rw [flat_take hjz, ← List.append_assoc]
      generalize zs[j] = nm at *
      generalize (deedsA zs pl ++ (zs.take j).flatMap fun n => (zs.filter fun f => !decide (f = n)).flatMap fun f => (List.range pl).flatMap fun p => rowB pl n f p) = pre at *
      refine ⟨.ref N, rfl, N, rfl, ⟨_, .of S.hN⟩, fun e ne => ?_⟩
      refine lc_data (K := K) (walk_list (K := K) (a := N) (xs := zs.map V.str)) y_at (fun k => zs[k]?.bind fun z => if (fun f => !decide (f = nm)) z = true then some (.str z) else none) (fun k hk d e => ?_) (by rw [List.length_map]; omega) ne (fun G2 s2 => .of (s2 _ _ S.hN)) ?_ ?_
      · obtain ⟨z, _, e⟩ := Option.bind_eq_some_iff.mp e
        split at e
        · rw [← Option.some.inj e]
          exact .str _
        · cases e
      · intro k z G2 Kc Kn hk s2 hz kc kn
        have hkz : k < zs.length := by rw [List.length_map] at hk; exact hk
        obtain rfl := strat hkz hz
        rw [List.getElem?_eq_getElem hkz] at kc kn
        refine ⟨rfl, .str zs[k], rfl, .str nm, rfl, rfl, _, rfl, ?_⟩
        by_cases he : zs[k] = nm
        · rw [show (!decide (V.str zs[k] = V.str nm)) = false by rw [decide_eq_true (congrArg V.str he)]; rfl]
          exact iteF (kn _ (by show (if (!decide (zs[k] = nm)) = true then _ else _) = _; rw [decide_eq_true he]; rfl) (Same.refl _))
        · rw [show (!decide (V.str zs[k] = V.str nm)) = true by rw [decide_eq_false fun e => he (V.str.inj e)]; rfl]
          exact iteT ⟨_, rfl, kc _ _ (.str zs[k]) (by show (if (!decide (zs[k] = nm)) = true then _ else _) = _; rw [decide_eq_false he]; rfl) (Same.refl _) (.str _)⟩
      intro G2 acc2 s2 he hacc2
      rw [fm_bind, List.length_map, List.take_length] at hacc2
      obtain rfl := strs_back hacc2
      have fl := List.length_filter_le (fun f => !decide (f = nm)) zs
      generalize (zs.filter fun f => !decide (f = nm)) = fz at *
      have S2 := S.same s2
      refine ⟨e, rfl, ⟨_, .of he⟩, ?_⟩
      refine for_it (walk_list (K := K) (a := e) (xs := fz.map V.str)) (fun a σ G => ∃ (l : Addr) (y4 y6 y7 y8 y9 : Option V), σ = [some (.ref g), some (.ref l), some (.ref N), some (.ref PL), y4, some (.str nm), y6, y7, y8, y9] ∧ DS K H N PL zs pl G l (pre ++ (fz.take a).flatMap fun f => (List.range pl).flatMap fun p => rowB pl nm f p) ∧ G e = some (.lst (fz.map V.str))) ⟨l, _, _, _, _, _, rfl, by rw [List.take_zero, List.flatMap_nil, List.append_nil]; exact S2, he⟩ (fun a σ G _ h => by obtain ⟨_, _, _, _, _, _, _, _, h⟩ := h; exact .of h) ?_ ?_
      · rintro a v σ G G' ha ⟨l, y4, y6, y7, y8, y9, rfl, S, he⟩ ⟨rfl, hv⟩
        have haz : a < fz.length := by rw [List.length_map] at ha; exact ha
        obtain rfl := strat haz hv
        have few3 : ((fz.take a).flatMap fun f => (List.range pl).flatMap fun p => rowB pl nm f p).length ≤ fz.length * 4 := flat_takel (c := 4) fun f _ => lenBP nm f
        have few4 : (pre ++ (fz.take a).flatMap fun f => (List.range pl).flatMap fun p => rowB pl nm f p).length ≤ 66 := by rw [List.length_append]; omega
        rw [flat_take haz, ← List.append_assoc]
        generalize (pre ++ (fz.take a).flatMap fun f => (List.range pl).flatMap fun p => rowB pl nm f p) = pre2 at *
        generalize fz[a] = far at *
        refine ⟨.ref PL, rfl, PL, rfl, ⟨_, .of S.hP⟩, ?_⟩
        refine for_it (walk_list (K := K) (a := PL) (xs := rgV 0 pl)) (fun b σ G => ∃ (l : Addr) (y4 y6 y7 y9 : Option V), σ = [some (.ref g), some (.ref l), some (.ref N), some (.ref PL), y4, some (.str nm), y6, y7, some (.str far), y9] ∧ DS K H N PL zs pl G l (pre2 ++ ((List.range pl).take b).flatMap fun p => rowB pl nm far p) ∧ G e = some (.lst (fz.map V.str))) ⟨l, _, _, _, _, rfl, by rw [List.take_zero, List.flatMap_nil, List.append_nil]; exact S, he⟩ (fun b σ G _ h => by obtain ⟨_, _, _, _, _, _, S, _⟩ := h; exact .of S.hP) ?_ ?_
        · rintro b v σ G G' hb ⟨l, y4, y6, y7, y9, rfl, S, he⟩ ⟨rfl, hv⟩
          obtain rfl := rgat hv
          have hbl : b < (List.range pl).length := by rw [List.length_range]; omega
          have few5 : (((List.range pl).take b).flatMap fun p => rowB pl nm far p).length ≤ (List.range pl).length * 2 := flat_takel (c := 2) fun p _ => lenB nm far p
          rw [List.length_range] at few5
          rw [flat_take hbl, ← List.append_assoc, List.getElem_range]
          refine ⟨.ref l, rfl, .ref PL, rfl, PL, rfl, ⟨_, .of S.hP⟩, fun u nu => ?_⟩
          refine lc_data (K := K) (walk_list (K := K) (a := PL) (xs := rgV 0 pl)) y_at (fun q => some (.tuple [.str "pick", .str nm, .str far, natD b, natD q])) (fun q hq d e => by rw [← Option.some.inj e]; exact nolB nm far b _ (List.mem_map.mpr ⟨q, List.mem_range.mpr (by omega), rfl⟩)) (by omega) nu (fun G2 s2 => .of (s2 _ _ S.hP)) ?_ ?_
          · intro q z G2 Kc Kn hq s2 hz kc _
            obtain rfl := rgat hz
            exact ⟨rfl, yes (iteT ⟨.str nm, rfl, .str far, rfl, .int (b : Nat), rfl, .int (q : Nat), rfl, by show 5 ≤ sizeLine; decide, fun t nt => kc _ _ _ rfl (same_upd nt) (.tup (.of upd_same) (.cons (.str _) (.cons (.str _) (.cons (.str _) (.cons (.int _) (.cons (.int _) .nil))))))⟩)⟩
          · intro G2 acc2 s2 hu hacc2
            rw [fm_some, rgl] at hacc2
            refine DS.cat (S.same s2) hu (E := rowB pl nm far b) (by unfold rowB; rw [List.map_map]; exact hacc2) (nolB nm far b) (by have := lenB nm far b; rw [List.length_append]; omega) (S.und.2.1.trans s2) fun q G3 s3 S3 => ⟨q, _, _, _, _, rfl, S3, (s2.trans s3) _ _ he⟩
        · rintro σ G ⟨l, y4, y6, y7, y9, rfl, S, he⟩
          rw [rgl, List.take_of_length_le (by rw [List.length_range]; exact Nat.le_refl _)] at S
          exact ⟨l, _, _, _, _, _, rfl, S, he⟩
      · rintro σ G ⟨l, y4, y6, y7, y8, y9, rfl, S, he⟩
        rw [List.length_map, List.take_length] at S
        exact ⟨l, _, _, _, _, _, _, rfl, S⟩
    rintro σ G6 ⟨l2, y4, y5, y6, y7, y8, y9, rfl, SB⟩
    rw [List.length_map, List.take_length] at SB
    have SB : DS K H N PL zs pl G6 l2 (deedsA zs pl ++ deedsB zs pl) := SB
    have fewB : (deedsB zs pl).length ≤ 36 := Nat.le_trans (flat_len (c := 12) fun n _ => lenBF n) (by omega)
    have few0 : (deedsA zs pl ++ deedsB zs pl).length ≤ 54 := by rw [List.length_append]; omega
    -- the third part
    have lenC : ∀ w n, (rowC zs w n).length ≤ 3 := fun w n => by
      unfold rowC
      split
      · show 1 ≤ 3
        omega
      split
      · show 2 ≤ 3
        omega
      · rw [List.length_map]
        exact Nat.le_trans (List.length_filter_le _ _) lz
    have nol2 : ∀ a b : Str, NoL (.tuple [.str a, .str b]) := fun a b => .tup fun d hd => by
      rcases List.mem_cons.mp hd with rfl | hd
      · exact .str _
      · rw [List.mem_singleton.mp hd]
        exact .str _
    have nol3 : ∀ a b c : Str, NoL (.tuple [.str a, .str b, .str c]) := fun a b c => .tup fun d hd => by
      rcases List.mem_cons.mp hd with rfl | hd
      · exact .str _
      rcases List.mem_cons.mp hd with rfl | hd
      · exact .str _
      · rw [List.mem_singleton.mp hd]
        exact .str _
    have nolC : ∀ w n, ∀ x ∈ rowC zs w n, NoL (.tuple x) := fun w n x hx => by
      unfold rowC at hx
      split at hx
      · rw [List.mem_singleton.mp hx]
        exact nol2 _ _
      split at hx
      · rcases List.mem_cons.mp hx with rfl | hx
        · exact nol3 _ _ _
        · rw [List.mem_singleton.mp hx]
          exact nol3 _ _ _
      · obtain ⟨f, _, rfl⟩ := List.mem_map.mp hx
        exact nol3 _ _ _
    have lenCC : ∀ w, (zs.flatMap fun n => rowC zs w n).length ≤ 9 := fun w => Nat.le_trans (flat_len (c := 3) fun n _ => lenC w n) (by omega)
    refine ⟨by show 5 ≤ sizeLine; decide, fun t5 nt5 => ?_⟩
    have S5 := SB.same (same_upd (o := .tup [V.str "merge", V.str "squash", V.str "pass", V.str "hear", V.str "mean"]) nt5)
    have ht5 : (upd G6 t5 (.tup [V.str "merge", V.str "squash", V.str "pass", V.str "hear", V.str "mean"])) t5 = some (.tup [V.str "merge", V.str "squash", V.str "pass", V.str "hear", V.str "mean"]) := upd_same
    generalize upd G6 t5 (.tup [V.str "merge", V.str "squash", V.str "pass", V.str "hear", V.str "mean"]) = G7 at *
    refine ⟨t5, rfl, ⟨_, .of ht5⟩, ?_⟩
    refine for_it (walk_tup (K := K) (a := t5) (xs := (["merge", "squash", "pass", "hear", "mean"] : List Str).map V.str)) (fun i σ G => ∃ (l : Addr) (y4 y5 y6 y7 y8 y9 : Option V), σ = [some (.ref g), some (.ref l), some (.ref N), some (.ref PL), y4, y5, y6, y7, y8, y9] ∧ DS K H N PL zs pl G l ((deedsA zs pl ++ deedsB zs pl) ++ (((["merge", "squash", "pass", "hear", "mean"] : List Str).take i).flatMap fun w => zs.flatMap fun n => rowC zs w n)) ∧ G t5 = some (.tup [V.str "merge", V.str "squash", V.str "pass", V.str "hear", V.str "mean"])) ⟨l2, _, _, _, _, _, _, rfl, by rw [List.take_zero, List.flatMap_nil, List.append_nil]; exact S5, ht5⟩ (fun i σ G _ h => by obtain ⟨_, _, _, _, _, _, _, _, _, h⟩ := h; exact .of h) ?_ ?_
    · rintro i v σ G G' hi ⟨l, y4, y5, y6, y7, y8, y9, rfl, S, ht⟩ ⟨rfl, hv⟩
      have hi5 : i < (["merge", "squash", "pass", "hear", "mean"] : List Str).length := by rw [List.length_map] at hi; exact hi
      obtain rfl := strat hi5 hv
      have few1 : (((["merge", "squash", "pass", "hear", "mean"] : List Str).take i).flatMap fun w => zs.flatMap fun n => rowC zs w n).length ≤ 5 * 9 := flat_takel (c := 9) fun w _ => lenCC w
      have few2 : ((deedsA zs pl ++ deedsB zs pl) ++ (((["merge", "squash", "pass", "hear", "mean"] : List Str).take i).flatMap fun w => zs.flatMap fun n => rowC zs w n)).length ≤ 99 := by rw [List.length_append]; omega
      rw [flat_take hi5, ← List.append_assoc]
      generalize (["merge", "squash", "pass", "hear", "mean"] : List Str)[i] = wd' at *
      generalize ((deedsA zs pl ++ deedsB zs pl) ++ (((["merge", "squash", "pass", "hear", "mean"] : List Str).take i).flatMap fun w => zs.flatMap fun n => rowC zs w n)) = pre at *
      refine ⟨.ref N, rfl, N, rfl, ⟨_, .of S.hN⟩, ?_⟩
      refine for_it (walk_list (K := K) (a := N) (xs := zs.map V.str)) (fun j σ G => ∃ (l : Addr) (y5 y6 y7 y8 y9 : Option V), σ = [some (.ref g), some (.ref l), some (.ref N), some (.ref PL), some (.str wd'), y5, y6, y7, y8, y9] ∧ DS K H N PL zs pl G l (pre ++ (zs.take j).flatMap fun n => rowC zs wd' n) ∧ G t5 = some (.tup [V.str "merge", V.str "squash", V.str "pass", V.str "hear", V.str "mean"])) ⟨l, _, _, _, _, _, rfl, by rw [List.take_zero, List.flatMap_nil, List.append_nil]; exact S, ht⟩ (fun j σ G _ h => by obtain ⟨_, _, _, _, _, _, _, S, _⟩ := h; exact .of S.hN) ?_ ?_
      · rintro j v σ G G' hj ⟨l, y5, y6, y7, y8, y9, rfl, S, ht⟩ ⟨rfl, hv⟩
        have hjz : j < zs.length := by rw [List.length_map] at hj; exact hj
        obtain rfl := strat hjz hv
        have few3 : ((zs.take j).flatMap fun n => rowC zs wd' n).length ≤ zs.length * 3 := flat_takel (c := 3) fun n _ => lenC wd' n
        have few4 : (pre ++ (zs.take j).flatMap fun n => rowC zs wd' n).length ≤ 108 := by rw [List.length_append]; omega
        rw [flat_take hjz, ← List.append_assoc]
        have hlC := lenC wd' zs[j]
        generalize zs[j] = nm at *
        generalize (pre ++ (zs.take j).flatMap fun n => rowC zs wd' n) = pre2 at *
        refine ⟨.str wd', rfl, rfl, _, rfl, ?_⟩
        by_cases hp : wd' = "pass"
        · rw [show decide (V.str wd' = V.str "pass") = true from decide_eq_true (congrArg V.str hp)]
          obtain ⟨u1, u2, acc, u3, u4⟩ := S.und
          refine iteT ⟨.ref l, rfl, .inl ⟨rfl, _, .of u3⟩, .str wd', rfl, .str nm, rfl, by show 2 ≤ sizeLine; decide, fun t nt => ?_⟩
          have st := same_upd (o := .tup [V.str wd', V.str nm]) nt
          have la := dpAll_len u4
          rw [List.length_map] at la
          refine ⟨l, acc, .ref t, rfl, rfl, st _ _ u3, small500 (by omega), ?_⟩
          have eC : rowC zs wd' nm = [[.str wd', .str nm]] := if_pos hp
          have put : ∀ a o, a ≠ l → G' a = some o → (upd (upd G' t (.tup [V.str wd', V.str nm])) l (.lst (acc ++ [V.ref t]))) a = some o := fun a o ne e => by rw [upd_ne ne]; exact st _ _ e
          refine ⟨l, _, _, _, _, _, rfl, ⟨⟨u1, fun a o e => put a o (ne_of_none e u1) (u2 a o e), _, upd_same, ?_⟩, fun x hx => (List.mem_append.mp hx).elim (S.nol x) (nolC _ _ x), put _ _ S.nN.symm S.hN, put _ _ S.nP.symm S.hP, S.nN, S.nP⟩, put _ _ (fun z => by rw [z, u3] at ht; cases ht) ht⟩
          rw [eC, List.map_append]
          refine dpAll_push (st _ _ u3) (fun x hx => ?_) (dpAll_same st u4) (.tup (.of upd_same) (.cons (.str _) (.cons (.str _) .nil)))
          rcases List.mem_append.mp hx with hx | hx
          · obtain ⟨y, hy, rfl⟩ := List.mem_map.mp hx
            exact S.nol y hy
          · rw [List.mem_singleton.mp hx]
            exact nol2 _ _
        rw [show decide (V.str wd' = V.str "pass") = false from decide_eq_false fun z => hp (V.str.inj z)]
        refine iteF ⟨.str wd', rfl, rfl, _, rfl, ?_⟩
        by_cases hm : wd' = "mean"
        · rw [show decide (V.str wd' = V.str "mean") = true from decide_eq_true (congrArg V.str hm)]
          have eC : rowC zs wd' nm = [[.str wd', .str nm, .str "in"], [.str wd', .str nm, .str "out"]] := by unfold rowC; rw [if_neg hp, if_pos hm]
          refine iteT ⟨.ref l, rfl, .str wd', rfl, .str nm, rfl, by show 3 ≤ sizeLine; decide, fun ta nta => ⟨.str wd', rfl, .str nm, rfl, by show 3 ≤ sizeLine; decide, fun tb ntb => ⟨by show 2 ≤ sizeLine; decide, fun e ne => ?_⟩⟩⟩
          have sa := same_upd (o := .tup [V.str wd', V.str nm, V.str "in"]) nta
          have sb := same_upd (o := .tup [V.str wd', V.str nm, V.str "out"]) ntb
          have se := same_upd (o := .lst [V.ref ta, V.ref tb]) ne
          refine DS.cat (S.same ((sa.trans sb).trans se)) upd_same (E := rowC zs wd' nm) ?_ (nolC _ _) (by omega) (S.und.2.1.trans ((sa.trans sb).trans se)) fun q G3 s3 S3 => ⟨q, _, _, _, _, _, rfl, S3, (((sa.trans sb).trans se).trans s3) _ _ ht⟩
          rw [eC]
          exact .cons (.tup (.of (se _ _ (sb _ _ upd_same))) (.cons (.str _) (.cons (.str _) (.cons (.str _) .nil)))) (.cons (.tup (.of (se _ _ upd_same)) (.cons (.str _) (.cons (.str _) (.cons (.str _) .nil)))) .nil)
        rw [show decide (V.str wd' = V.str "mean") = false from decide_eq_false fun z => hm (V.str.inj z)]
        have eC : rowC zs wd' nm = (zs.filter fun f => !decide (f = nm)).map fun f => [.str wd', .str nm, .str f] := by unfold rowC; rw [if_neg hp, if_neg hm]
        refine iteF ⟨.ref l, rfl, .ref N, rfl, N, rfl, ⟨_, .of S.hN⟩, fun e ne => ?_⟩
        refine lc_data (K := K) (walk_list (K := K) (a := N) (xs := zs.map V.str)) y_at (fun k => zs[k]?.bind fun z => if (fun f => !decide (f = nm)) z = true then some (.tuple [.str wd', .str nm, .str z]) else none) (fun k hk d e => ?_) (by rw [List.length_map]; omega) ne (fun G2 s2 => .of (s2 _ _ S.hN)) ?_ ?_
        · obtain ⟨z, _, e⟩ := Option.bind_eq_some_iff.mp e
          split at e
          · rw [← Option.some.inj e]
            exact nol3 _ _ _
          · cases e
        · intro k z G2 Kc Kn hk s2 hz kc kn
          have hkz : k < zs.length := by rw [List.length_map] at hk; exact hk
          obtain rfl := strat hkz hz
          rw [List.getElem?_eq_getElem hkz] at kc kn
          refine ⟨rfl, .str zs[k], rfl, .str nm, rfl, rfl, _, rfl, ?_⟩
          by_cases he : zs[k] = nm
          · rw [show (!decide (V.str zs[k] = V.str nm)) = false by rw [decide_eq_true (congrArg V.str he)]; rfl]
            exact iteF (kn _ (by show (if (!decide (zs[k] = nm)) = true then _ else _) = _; rw [decide_eq_true he]; rfl) (Same.refl _))
          · rw [show (!decide (V.str zs[k] = V.str nm)) = true by rw [decide_eq_false fun e => he (V.str.inj e)]; rfl]
            exact iteT ⟨.str wd', rfl, .str nm, rfl, .str zs[k], rfl, by show 3 ≤ sizeLine; decide, fun t nt => kc _ _ (.tuple [.str wd', .str nm, .str zs[k]]) (by show (if (!decide (zs[k] = nm)) = true then _ else _) = _; rw [decide_eq_false he]; rfl) (same_upd nt) (.tup (.of upd_same) (.cons (.str _) (.cons (.str _) (.cons (.str _) .nil))))⟩
        · intro G2 acc2 s2 he hacc2
          rw [fm_bind, List.length_map, List.take_length] at hacc2
          refine DS.cat (S.same s2) he (E := rowC zs wd' nm) (by rw [eC, List.map_map]; exact hacc2) (nolC _ _) (by omega) (S.und.2.1.trans s2) fun q G3 s3 S3 => ⟨q, _, _, _, _, _, rfl, S3, (s2.trans s3) _ _ ht⟩
      · rintro σ G ⟨l, y5, y6, y7, y8, y9, rfl, S, ht⟩
        rw [List.length_map, List.take_length] at S
        exact ⟨l, _, _, _, _, _, _, rfl, S, ht⟩
    rintro σ G9 ⟨l3, y4, y5, y6, y7, y8, y9, rfl, SC, _⟩
    exact ⟨.ref l3, rfl, q G9 l3 SC.und⟩
end
end KT

namespace KT
open PySem PySem.Spec PyProof.Rows L2
section
variable {zs : List Str} {pl : Nat} {d e : PyData}
theorem eqv_str {z : Str} : PyData.eqv (.str z) d = true ↔ d = .str z := by
  cases d <;> simp [PyData.eqv]
  exact eq_comm
theorem eqv_str2 {z : Str} : PyData.eqv d (.str z) = true ↔ d = .str z := by
  cases d <;> simp [PyData.eqv]
theorem inB_iff : inB zs d = true ↔ ∃ z ∈ zs, d = .str z := by
  unfold inB
  rw [List.any_eq_true]
  constructor
  · rintro ⟨x, hx, h⟩
    obtain ⟨z, hz, rfl⟩ := List.mem_map.mp hx
    exact ⟨z, hz, eqv_str.mp h⟩
  · rintro ⟨z, hz, rfl⟩
    exact ⟨_, List.mem_map.mpr ⟨z, hz, rfl⟩, eqv_str.mpr rfl⟩
theorem idxB_iff : idxB pl d = true ↔ ∃ p, p < pl ∧ d = natD p := by
  constructor
  · intro h
    cases d with
    | int i =>
      have h : (decide (0 ≤ i) && decide (i < (pl : Int))) = true := h
      rw [Bool.and_eq_true, decide_eq_true_iff, decide_eq_true_iff] at h
      exact ⟨i.toNat, by omega, by unfold natD; congr 1; omega⟩
    | _ => cases h
  · rintro ⟨p, hp, rfl⟩
    show (decide (0 ≤ (p : Int)) && decide ((p : Int) < (pl : Int))) = true
    rw [Bool.and_eq_true, decide_eq_true_iff, decide_eq_true_iff]
    omega
theorem fits_branch : fitsB zs pl "branch" d e = inB zs d := by
  unfold fitsB
  rw [if_neg (by decide), if_neg (by decide), if_neg (fun z => absurd z.1 (by decide))]
theorem fits_place : fitsB zs pl "place" d e = idxB pl d := by
  unfold fitsB
  rw [if_pos rfl]
theorem fits_meaning : fitsB zs pl "meaning" d e = inB ["in", "out"] d := by
  unfold fitsB
  rw [if_neg (by decide), if_pos rfl]
theorem fits_other {n : Str} : fitsB zs pl "other" d (.str n) = true ↔ ∃ f ∈ zs, f ≠ n ∧ d = .str f := by
  unfold fitsB
  rw [if_neg (by decide), if_neg (by decide)]
  by_cases h : PyData.eqv d (.str n) = true
  · rw [if_pos ⟨rfl, h⟩]
    have := eqv_str2.mp h
    constructor
    · intro z
      cases z
    · rintro ⟨f, _, ne, rfl⟩
      exact absurd (PyData.str.inj this) ne
  · rw [if_neg fun z => h z.2, inB_iff]
    constructor
    · rintro ⟨z, hz, rfl⟩
      exact ⟨z, hz, fun e => h (eqv_str2.mpr (by rw [e])), rfl⟩
    · rintro ⟨f, hf, _, rfl⟩
      exact ⟨f, hf, rfl⟩
theorem judge_str {w : Str} {rest : List PyData} : judgeB zs pl (.tuple (.str w :: rest)) = match kindsOf w with
    | some ks => decide (rest.length = ks.length) && (ks.zip rest).all fun p => fitsB zs pl p.1 p.2 (rest.getD 0 .none)
    | none => false := rfl
theorem judge_some {w : Str} {ks : List Str} {rest : List PyData} (h : kindsOf w = some ks) : judgeB zs pl (.tuple (.str w :: rest)) = true ↔ rest.length = ks.length ∧ ∀ p ∈ ks.zip rest, fitsB zs pl p.1 p.2 (rest.getD 0 .none) = true := by
  rw [judge_str, h]
  show (decide (rest.length = ks.length) && (ks.zip rest).all fun p => fitsB zs pl p.1 p.2 (rest.getD 0 .none)) = true ↔ _
  rw [Bool.and_eq_true, decide_eq_true_iff, List.all_eq_true]
theorem judge_two {w k1 k2 : Str} {rest : List PyData} (h : kindsOf w = some [k1, k2]) : judgeB zs pl (.tuple (.str w :: rest)) = true ↔ ∃ a b, rest = [a, b] ∧ fitsB zs pl k1 a a = true ∧ fitsB zs pl k2 b a = true := by
  rw [judge_some h]
  constructor
  · rintro ⟨l, all⟩
    match rest, l with
    | [a, b], _ => exact ⟨a, b, rfl, all (k1, a) (by simp), all (k2, b) (by simp)⟩
  · rintro ⟨a, b, rfl, h1, h2⟩
    refine ⟨rfl, fun p hp => ?_⟩
    rcases List.mem_cons.mp hp with rfl | hp
    · exact h1
    · rw [List.mem_singleton.mp hp]
      exact h2
theorem judge_one {w k1 : Str} {rest : List PyData} (h : kindsOf w = some [k1]) : judgeB zs pl (.tuple (.str w :: rest)) = true ↔ ∃ a, rest = [a] ∧ fitsB zs pl k1 a a = true := by
  rw [judge_some h]
  constructor
  · rintro ⟨l, all⟩
    match rest, l with
    | [a], _ => exact ⟨a, rfl, all (k1, a) (by simp)⟩
  · rintro ⟨a, rfl, h1⟩
    refine ⟨rfl, fun p hp => ?_⟩
    rw [List.mem_singleton.mp hp]
    exact h1
theorem judge_four {w k1 k2 k3 k4 : Str} {rest : List PyData} (h : kindsOf w = some [k1, k2, k3, k4]) : judgeB zs pl (.tuple (.str w :: rest)) = true ↔ ∃ a b c d, rest = [a, b, c, d] ∧ fitsB zs pl k1 a a = true ∧ fitsB zs pl k2 b a = true ∧ fitsB zs pl k3 c a = true ∧ fitsB zs pl k4 d a = true := by
  rw [judge_some h]
  constructor
  · rintro ⟨l, all⟩
    match rest, l with
    | [a, b, c, d], _ => exact ⟨a, b, c, d, rfl, all (k1, a) (by simp), all (k2, b) (by simp), all (k3, c) (by simp), all (k4, d) (by simp)⟩
  · rintro ⟨a, b, c, d, rfl, h1, h2, h3, h4⟩
    refine ⟨rfl, fun p hp => ?_⟩
    rcases List.mem_cons.mp hp with rfl | hp
    · exact h1
    rcases List.mem_cons.mp hp with rfl | hp
    · exact h2
    rcases List.mem_cons.mp hp with rfl | hp
    · exact h3
    · rw [List.mem_singleton.mp hp]
      exact h4
theorem mem_A {x : Items} : x ∈ deedsA zs pl ↔ ∃ w ∈ (["make", "restore", "drop"] : List Str), ∃ n ∈ zs, ∃ p, p < pl ∧ x = [.str w, .str n, natD p] := by
  unfold deedsA rowA
  constructor
  · intro h
    obtain ⟨w, hw, h⟩ := List.mem_flatMap.mp h
    obtain ⟨n, hn, h⟩ := List.mem_flatMap.mp h
    obtain ⟨p, hp, rfl⟩ := List.mem_map.mp h
    exact ⟨w, hw, n, hn, p, List.mem_range.mp hp, rfl⟩
  · rintro ⟨w, hw, n, hn, p, hp, rfl⟩
    exact List.mem_flatMap.mpr ⟨w, hw, List.mem_flatMap.mpr ⟨n, hn, List.mem_map.mpr ⟨p, List.mem_range.mpr hp, rfl⟩⟩⟩
theorem mem_B {x : Items} : x ∈ deedsB zs pl ↔ ∃ n ∈ zs, ∃ f ∈ zs, f ≠ n ∧ ∃ p, p < pl ∧ ∃ g, g < pl ∧ x = [.str "pick", .str n, .str f, natD p, natD g] := by
  unfold deedsB rowB
  constructor
  · intro h
    obtain ⟨n, hn, h⟩ := List.mem_flatMap.mp h
    obtain ⟨f, hf, h⟩ := List.mem_flatMap.mp h
    obtain ⟨p, hp, h⟩ := List.mem_flatMap.mp h
    obtain ⟨g, hg, rfl⟩ := List.mem_map.mp h
    obtain ⟨f1, f2⟩ := List.mem_filter.mp hf
    exact ⟨n, hn, f, f1, by simpa using f2, p, List.mem_range.mp hp, g, List.mem_range.mp hg, rfl⟩
  · rintro ⟨n, hn, f, hf, ne, p, hp, g, hg, rfl⟩
    exact List.mem_flatMap.mpr ⟨n, hn, List.mem_flatMap.mpr ⟨f, List.mem_filter.mpr ⟨hf, by simpa using ne⟩, List.mem_flatMap.mpr ⟨p, List.mem_range.mpr hp, List.mem_map.mpr ⟨g, List.mem_range.mpr hg, rfl⟩⟩⟩⟩
theorem mem_C {x : Items} : x ∈ deedsC zs ↔ ∃ w ∈ (["merge", "squash", "pass", "hear", "mean"] : List Str), ∃ n ∈ zs, x ∈ rowC zs w n := by
  unfold deedsC
  constructor
  · intro h
    obtain ⟨w, hw, h⟩ := List.mem_flatMap.mp h
    obtain ⟨n, hn, h⟩ := List.mem_flatMap.mp h
    exact ⟨w, hw, n, hn, h⟩
  · rintro ⟨w, hw, n, hn, h⟩
    exact List.mem_flatMap.mpr ⟨w, hw, List.mem_flatMap.mpr ⟨n, hn, h⟩⟩
theorem mem_L {x : Items} : x ∈ deedsL zs pl ↔ x ∈ deedsA zs pl ∨ x ∈ deedsB zs pl ∨ x ∈ deedsC zs := by
  unfold deedsL
  rw [List.mem_append, List.mem_append, or_assoc]
/-- the judging of a tuple is the membership in the list of all deeds -/
theorem judge_mem {x : Items} : judgeB zs pl (.tuple x) = true ↔ x ∈ deedsL zs pl := by
  rw [mem_L, mem_A, mem_B, mem_C]
  constructor
  · intro h
    match x with
    | [] => cases h
    | d0 :: rest =>
      cases d0 with
      | str w =>
        have two : ∀ {k2 : Str}, kindsOf w = some (["branch", k2] : List Str) → ∃ n ∈ zs, ∃ b, rest = [.str n, b] ∧ fitsB zs pl k2 b (.str n) = true := fun {k2} hk => by
          obtain ⟨a, b, rfl, h1, h2⟩ := (judge_two hk).mp h
          rw [fits_branch, inB_iff] at h1
          obtain ⟨n, hn, rfl⟩ := h1
          exact ⟨n, hn, b, rfl, h2⟩
        by_cases c1 : w = "make" ∨ w = "restore" ∨ w = "drop"
        · obtain ⟨n, hn, b, rfl, h2⟩ := two (k2 := "place") (if_pos c1)
          rw [fits_place, idxB_iff] at h2
          obtain ⟨p, hp, rfl⟩ := h2
          exact .inl ⟨w, by simpa using c1, n, hn, p, hp, rfl⟩
        by_cases c2 : w = "pick"
        · subst c2
          obtain ⟨a, b, c, d, rfl, h1, h2, h3, h4⟩ := (judge_four (show kindsOf "pick" = some (["branch", "other", "place", "place"] : List Str) by decide)).mp h
          rw [fits_branch, inB_iff] at h1
          obtain ⟨n, hn, rfl⟩ := h1
          obtain ⟨f, hf, ne, rfl⟩ := fits_other.mp h2
          rw [fits_place, idxB_iff] at h3 h4
          obtain ⟨p, hp, rfl⟩ := h3
          obtain ⟨g, hg, rfl⟩ := h4
          exact .inr (.inl ⟨n, hn, f, hf, ne, p, hp, g, hg, rfl⟩)
        by_cases c3 : w = "merge" ∨ w = "squash" ∨ w = "hear"
        · obtain ⟨n, hn, b, rfl, h2⟩ := two (k2 := "other") (by unfold kindsOf; rw [if_neg c1, if_neg c2, if_pos c3])
          obtain ⟨f, hf, ne, rfl⟩ := fits_other.mp h2
          refine .inr (.inr ⟨w, ?_, n, hn, ?_⟩)
          · rcases c3 with rfl | rfl | rfl <;> simp
          · unfold rowC
            rw [if_neg (by rcases c3 with rfl | rfl | rfl <;> decide), if_neg (by rcases c3 with rfl | rfl | rfl <;> decide)]
            exact List.mem_map.mpr ⟨f, List.mem_filter.mpr ⟨hf, by simpa using ne⟩, rfl⟩
        by_cases c4 : w = "pass"
        · subst c4
          obtain ⟨a, rfl, h1⟩ := (judge_one (show kindsOf "pass" = some (["branch"] : List Str) by decide)).mp h
          rw [fits_branch, inB_iff] at h1
          obtain ⟨n, hn, rfl⟩ := h1
          exact .inr (.inr ⟨"pass", by simp, n, hn, by unfold rowC; rw [if_pos rfl]; exact List.mem_singleton.mpr rfl⟩)
        by_cases c5 : w = "mean"
        · subst c5
          obtain ⟨n, hn, b, rfl, h2⟩ := two (k2 := "meaning") (by decide)
          rw [fits_meaning, inB_iff] at h2
          obtain ⟨z, hz, rfl⟩ := h2
          refine .inr (.inr ⟨"mean", by simp, n, hn, ?_⟩)
          unfold rowC
          rw [if_neg (by decide), if_pos rfl]
          rcases List.mem_cons.mp hz with rfl | hz
          · exact List.mem_cons_self
          · rw [List.mem_singleton.mp hz]
            exact List.mem_cons_of_mem _ List.mem_cons_self
        · have : kindsOf w = none := by unfold kindsOf; rw [if_neg c1, if_neg c2, if_neg c3, if_neg c4, if_neg c5]
          rw [judge_str, this] at h
          cases h
      | _ => cases h
  · rintro (⟨w, hw, n, hn, p, hp, rfl⟩ | ⟨n, hn, f, hf, ne, p, hp, g, hg, rfl⟩ | ⟨w, hw, n, hn, hx⟩)
    · have hk : kindsOf w = some (["branch", "place"] : List Str) := if_pos (by simpa using hw)
      exact (judge_two hk).mpr ⟨_, _, rfl, by rw [fits_branch, inB_iff]; exact ⟨n, hn, rfl⟩, by rw [fits_place, idxB_iff]; exact ⟨p, hp, rfl⟩⟩
    · exact (judge_four (show kindsOf "pick" = some (["branch", "other", "place", "place"] : List Str) by decide)).mpr ⟨_, _, _, _, rfl, by rw [fits_branch, inB_iff]; exact ⟨n, hn, rfl⟩, fits_other.mpr ⟨f, hf, ne, rfl⟩, by rw [fits_place, idxB_iff]; exact ⟨p, hp, rfl⟩, by rw [fits_place, idxB_iff]; exact ⟨g, hg, rfl⟩⟩
    · have br : fitsB zs pl "branch" (.str n) (.str n) = true := by rw [fits_branch, inB_iff]; exact ⟨n, hn, rfl⟩
      unfold rowC at hx
      split at hx
      · rename_i e
        subst e
        rw [List.mem_singleton.mp hx]
        exact (judge_one (show kindsOf "pass" = some (["branch"] : List Str) by decide)).mpr ⟨_, rfl, br⟩
      split at hx
      · rename_i e
        subst e
        have hk : kindsOf "mean" = some (["branch", "meaning"] : List Str) := by decide
        rcases List.mem_cons.mp hx with rfl | hx
        · exact (judge_two hk).mpr ⟨_, _, rfl, br, by rw [fits_meaning, inB_iff]; exact ⟨"in", by simp, rfl⟩⟩
        · rw [List.mem_singleton.mp hx]
          exact (judge_two hk).mpr ⟨_, _, rfl, br, by rw [fits_meaning, inB_iff]; exact ⟨"out", by simp, rfl⟩⟩
      · rename_i e1 e2
        obtain ⟨f, hf, rfl⟩ := List.mem_map.mp hx
        obtain ⟨f1, f2⟩ := List.mem_filter.mp hf
        have hk : kindsOf w = some (["branch", "other"] : List Str) := by
          simp only [List.mem_cons, List.not_mem_nil, or_false] at hw
          rcases hw with rfl | rfl | rfl | rfl | rfl
          · decide
          · decide
          · exact absurd rfl e1
          · decide
          · exact absurd rfl e2
        exact (judge_two hk).mpr ⟨_, _, rfl, br, fits_other.mpr ⟨f, f1, by simpa using f2, rfl⟩⟩
end
end KT

namespace KT
open PySem PySem.Spec PyProof.Rows L2
/-! ### f(k = v, ..) without other arguments -/
section
variable {X : Cx} {CX : CXT} {k : Nat} {f : Addr} {fd : FuncData} {ps ks : List Str} {sp : Sp} {E : XK} {x : Str} {p pos : Pos} {kws : List Keyword} {tk : TA} {g : List Value → List Value → List Value} {gV : List V → List V → List V}
theorem pe_callN0 (F : FnOk X.prog X.w X.K X.mg X.base CX k f fd ps sp) (hr : Room k X.A) (hg : Gl X x) (hm : X.mg x = some (.ref f)) (hk : PySem.W.keepIn X.K (.ref f) = true) (hb : KBn X.K fd ps 0 ks g gV) (hx : Passes CX X E) (hkw : PK X kws tk)
    (hall : (backToKw pos (keywordEach kws X.env)).all (·.1.isSome) = true := by rfl) (hks : (backToKw pos (keywordEach kws X.env)).filterMap (·.1) = ks := by rfl) (hdb : (x == ("__debug__" : Str)) = false := by decide)
    (hpl : ((backTo pos (starEach [] X.env)).any (·.1) || (backToKw pos (keywordEach kws X.env)).any (·.1.isNone)) = false := by rfl) :
    PE X (.Call (.Name x p) [] kws pos) (tCallN 0 ks.length sp gV E tNil tk) := by
  refine ⟨fun pins s σ H Q I want => ?_⟩
  apply wpAny_Call_Name_kw
  refine ld_glob I hg hm ?_ hdb
  refine PySem.W.callWith_KW0 (h₀ := X.base) I.ok.mod.kin hk hall ?_ hpl
  refine thn (hkw.run pos pins s σ H _ I want) fun ws s2 ⟨zs, H2, I2, rz, l1, l2, q2⟩ => ⟨I2.kIn, ?_⟩
  rw [hks]
  exact run_fnN (us := []) (vs := []) F hr hb hx I2 .nil rz l1 l2 q2
end
/-! ### `_law_kinds in [..]` -/
def isBoolD : PyData → Bool
  | .bool _ => true
  | _ => false
def prK (d : PyData) : PyData := .tuple [.bool (isBoolD d), d]
def prF (d : PyData) : PyData := .tuple [.bool false, d]
def ScD (d : PyData) : Prop := (∃ z, d = .str z) ∨ ∃ i, d = .int i
theorem pair_eqv {a d : PyData} (h : ScD a) : PyData.eqv (prF a) (prK d) = true ↔ a = d := by
  have e : PyData.eqv (prF a) (prK d) = ((false == isBoolD d) && (PyData.eqv a d && true)) := rfl
  rw [e]
  rcases h with ⟨z, rfl⟩ | ⟨i, rfl⟩
  · cases d <;> simp [isBoolD, PyData.eqv]
  · cases d <;> simp [isBoolD, PyData.eqv]
theorem pairs_eqv : ∀ {as ds : List PyData}, (∀ a ∈ as, ScD a) → (PyData.eqvAll (as.map prF) (ds.map prK) = true ↔ as = ds)
  | [], [], _ => by simp [PyData.eqvAll]
  | [], d :: ds, _ => by simp [PyData.eqvAll]
  | a :: as, [], _ => by simp [PyData.eqvAll]
  | a :: as, d :: ds, h => by
    have h1 := pair_eqv (d := d) (h a List.mem_cons_self)
    have h2 := pairs_eqv (as := as) (ds := ds) fun b hb => h b (List.mem_cons_of_mem a hb)
    rw [List.map_cons, List.map_cons]
    show (PyData.eqv (prF a) (prK d) && PyData.eqvAll (as.map prF) (ds.map prK)) = true ↔ _
    rw [Bool.and_eq_true, h1, h2, List.cons.injEq]
theorem deeds_sc {zs : List Str} {pl : Nat} : ∀ x ∈ deedsL zs pl, ∀ d ∈ x, ScD d := by
  intro x hx
  have st : ∀ z : Str, ScD (.str z) := fun z => .inl ⟨z, rfl⟩
  have it : ∀ n : Nat, ScD (natD n) := fun n => .inr ⟨_, rfl⟩
  have two : ∀ {a b : PyData}, ScD a → ScD b → ∀ d ∈ [a, b], ScD d := fun ha hb d hd => by
    rcases List.mem_cons.mp hd with rfl | hd
    · exact ha
    · rw [List.mem_singleton.mp hd]; exact hb
  have three : ∀ {a b c : PyData}, ScD a → ScD b → ScD c → ∀ d ∈ [a, b, c], ScD d := fun ha hb hc d hd => by
    rcases List.mem_cons.mp hd with rfl | hd
    · exact ha
    · exact two hb hc d hd
  rcases mem_L.mp hx with hx | hx | hx
  · obtain ⟨w, _, n, _, p, _, rfl⟩ := mem_A.mp hx
    exact three (st _) (st _) (it _)
  · obtain ⟨n, _, f, _, _, p, _, g, _, rfl⟩ := mem_B.mp hx
    intro d hd
    rcases List.mem_cons.mp hd with rfl | hd
    · exact st _
    rcases List.mem_cons.mp hd with rfl | hd
    · exact st _
    · exact three (st _) (it _) (it _) d hd
  · obtain ⟨w, _, n, _, hx⟩ := mem_C.mp hx
    unfold rowC at hx
    split at hx
    · rw [List.mem_singleton.mp hx]
      exact two (st _) (st _)
    split at hx
    · rcases List.mem_cons.mp hx with rfl | hx
      · exact three (st _) (st _) (st _)
      · rw [List.mem_singleton.mp hx]
        exact three (st _) (st _) (st _)
    · obtain ⟨f, _, rfl⟩ := List.mem_map.mp hx
      exact three (st _) (st _) (st _)
/-- what the law tells of a tuple is what is_deed tells -/
theorem kinds_judge {zs : List Str} {pl : Nat} {items : List PyData} : (((deedsL zs pl).map fun one => PyData.list (one.map prF)).any fun z => PyData.eqv z (.list (items.map prK))) = judgeB zs pl (.tuple items) := by
  refine Bool.eq_iff_iff.mpr ?_
  rw [judge_mem, List.any_eq_true]
  constructor
  · rintro ⟨z, hz, h⟩
    obtain ⟨one, ho, rfl⟩ := List.mem_map.mp hz
    have h : PyData.eqvAll (one.map prF) (items.map prK) = true := h
    rw [← (pairs_eqv (deeds_sc one ho)).mp h]
    exact ho
  · intro h
    exact ⟨_, List.mem_map.mpr ⟨items, h, rfl⟩, (pairs_eqv (deeds_sc items h)).mpr rfl⟩
end KT

namespace KT
open PySem PySem.Spec PyProof.Rows L2
section
variable {K : PySem.W.Frag} {H : Hp}
theorem cat_ok {a b : Addr} {xs ys : List V} {Q : VK} (ha : SqT K H a xs) (hb : SqT K H b ys) (hz : xs.length + ys.length ≤ 1000) (q : ∀ H' r, Same H H' → SqT K H' r (xs ++ ys) → Q (.ref r) H') : rCatA K (.ref a) (.ref b) H Q := by
  refine ⟨a, b, xs, ys, rfl, rfl, ha, hb, Nat.le_of_lt (small1000 hz), fun e => ?_, fun n e => ?_, fun n1 n2 p np => ?_⟩
  · subst e
    exact q H b (Same.refl H) hb
  · subst e
    exact q H a (Same.refl H) (by rw [List.append_nil]; exact ha)
  · exact q _ p (same_upd np) (.of upd_same)
theorem slice_ok {a : Addr} {xs : List V} {lo hi : Option Int} {Q : VK} (ha : SqT K H a xs) (q : ∀ H' r, Same H H' → SqT K H' r (cutV xs lo hi) → Q (.ref r) H') : rSlA K (.ref a) lo hi H Q := by
  refine ⟨a, xs, rfl, ha, fun e => ?_, fun n p np => q _ p (same_upd np) (.of upd_same)⟩
  refine q H a (Same.refl H) ?_
  have : cutV xs lo hi = xs := by
    unfold cutV
    rw [e.1, e.2, List.drop_zero, Nat.sub_zero, List.take_length]
  rw [this]
  exact ha
end
theorem cut_head (xs : List V) {n : Nat} (h : n ≤ xs.length) : cutV xs none (some (n : Int)) = xs.take n := by
  unfold cutV
  rw [HT.sIx_nat, HT.sIx_none, Nat.sub_zero, List.drop_zero, Nat.min_eq_left h]
theorem cut_tail (xs : List V) {n : Nat} (h : n ≤ xs.length) : cutV xs (some (n : Int)) none = xs.drop n := by
  unfold cutV
  rw [HT.sIx_nat, HT.sIx_none, Nat.min_eq_left h]
  apply List.take_of_length_le
  rw [List.length_drop]
  omega
/-! ### like: found and due hold the same data -/
abbrev sLike : Stmt := top 28
theorem scLike : FnScope ["_law_found", "_law_due", "_law_k"] ["_law_found", "_law_due"] (defScope sLike) := ⟨rfl, rfl, rfl, by decide +kernel, rfl, by decide +kernel, by decide +kernel⟩
inductive DLe : Nat → PyData → Prop
  | non {n : Nat} : DLe n .none
  | bl {n : Nat} (b : Bool) : DLe n (.bool b)
  | int {n : Nat} (i : Int) : DLe n (.int i)
  | str {n : Nat} (z : Str) : DLe n (.str z)
  | lst {n : Nat} {ds : List PyData} (hl : ds.length ≤ 1000) (h : ∀ d ∈ ds, DLe n d) : DLe (n + 1) (.list ds)
  | tup {n : Nat} {ds : List PyData} (hl : ds.length ≤ 1000) (h : ∀ d ∈ ds, DLe n d) : DLe (n + 1) (.tuple ds)
section
variable {K : PySem.W.Frag} {H H' : Hp}
theorem ty_lst {a : Addr} {xs : List V} (h : SqL K H a xs) : TyX K H (.ref a) (.type "list") := by
  rcases h with (h | ⟨o, h⟩) | ⟨o, its, n, h, hc, _⟩
  · exact .base (.lst h)
  · exact .base (.frz h)
  · exact .kList h hc
theorem ty_tup {a : Addr} {xs : List V} (h : SqT K H a xs) : TyX K H (.ref a) (.type "tuple") := by
  rcases h with (h | ⟨o, h⟩) | ⟨o, its, n, h, hc, _⟩
  · exact .base (.tup h)
  · exact .fTuple h
  · exact .kTuple h hc
theorem kit_any2 {t : String} {b1 b2 : Bool} (h1 : PySem.W.kitOne K (.type t) (.type "list") = some b1) (h2 : PySem.W.kitOne K (.type t) (.type "tuple") = some b2) : PySem.W.kitAny K (.type t) [.type "list", .type "tuple"] = some (b1 || b2) := by
  unfold PySem.W.kitAny
  rw [h1]
  cases b1
  · unfold PySem.W.kitAny
    rw [h2]
    cases b2
    · rfl
    · rfl
  · rfl
end
section
variable {P : Program} {w : World} {K : PySem.W.Frag} {mg : Str → Option Value} {base : Heap}
def spLike (K : PySem.W.Frag) (n : Nat) : Sp := fun vs H Q _ => ∃ (u v : V) (d : PyData), vs = [u, v] ∧ Dp K H u d ∧ Dp K H v d ∧ DLe n d ∧ ∀ H', Same H H' → Q (.bl true) H'
theorem body_like {f : Addr} {fd : FuncData} {n : Nat} (F : Fun K "_law_like" "_law_like" sLike f fd) (T : Blt mg) (ml : mg "list" = none) (bL : Binds K fd ["_law_found", "_law_due"] []) (gL : mg "_law_like" = some (.ref f))
    (sub : FnOk P w K mg base CX0 n f fd ["_law_found", "_law_due"] (fun vs H Q E => ∃ m, n = m + 1 ∧ spLike K m vs H Q E)) : FnOk P w K mg base CX0 (n + 1) f fd ["_law_found", "_law_due"] (spLike K n) := by
  refine F.ok scLike (fun vs H Q E h => ?_) (fun cdv A outer s H vs Q E hr h => ?_)
  · obtain ⟨u, v, d, rfl, _⟩ := h
    rfl
  · obtain ⟨u, v, d, rfl, hu, hv, hd, q⟩ := h
    have isi : ∀ (i : Nat) (T' : String) (hi : i < 2), True := fun _ _ _ => trivial
    refine ⟨_, pss_cons (ps_if (PW.pt (pw_or (pt_cmpR op_isN (pv 0) pe_non (nomark _)) (pw_or1 (pt_cmpR op_isN (pv 1) pe_non (nomark _))))) (pss_one (ps_ret (pe_and (pe_cmpR op_isN (pv 0) pe_non (nomark _)) (pe_one (pe_cmpR op_isN (pv 1) pe_non (nomark _)))))) pss_nil)
      (pss_cons (ps_if (pt_val (pe_callB call_isiT (by rfl) T.misi (by decide +kernel) (pa_cons (pv 1) (pa_cons (pe_tup (pa_cons (pe_bltn (v := .ty "list") (by rfl) ml (by decide +kernel) rfl) (pa_cons (pe_bltn (v := .ty "tuple") (by rfl) T.mtuple (by decide +kernel) rfl) pa_nil))) pa_nil))))
        (pss_cons (ps_if (PW.pt (pw_or (pt_cmpR op_ne (pe_callB call_isi (by rfl) T.misi (by decide +kernel) (pa_cons (pv 0) (pa_cons (pe_bltn (v := .ty "list") (by rfl) ml (by decide +kernel) rfl) pa_nil))) (pe_callB call_isi (by rfl) T.misi (by decide +kernel) (pa_cons (pv 1) (pa_cons (pe_bltn (v := .ty "list") (by rfl) ml (by decide +kernel) rfl) pa_nil))) (nomark _))
            (pw_or1 (pt_cmpR op_ne (pe_callB call_isi (by rfl) T.misi (by decide +kernel) (pa_cons (pv 0) (pa_cons (pe_bltn (v := .ty "tuple") (by rfl) T.mtuple (by decide +kernel) rfl) pa_nil))) (pe_callB call_isi (by rfl) T.misi (by decide +kernel) (pa_cons (pv 1) (pa_cons (pe_bltn (v := .ty "tuple") (by rfl) T.mtuple (by decide +kernel) rfl) pa_nil))) (nomark _))))) (pss_one (ps_ret pe_bl)) pss_nil)
        (pss_one (ps_ret (pe_and (pe_cmpR op_eq (pe_callB call_len_seq (by rfl) T.mlen PySem.boot_len (pa_cons (pv 0) pa_nil)) (pe_callB call_len_seq (by rfl) T.mlen PySem.boot_len (pa_cons (pv 1) pa_nil)) (nomark _))
          (pe_one (pe_callB (cr_all rfl) (by rfl) T.mall (by decide +kernel) (pa_cons (pe_lc (own := [("_law_k", 2)]) (g := gName 2) (tt := tYes) rfl scLike.nd
            (pi_range1 rfl T.mrange (pa_cons (pe_callB call_len_seq (by rfl) T.mlen PySem.boot_len (pa_cons (pv 1) pa_nil)) pa_nil)) (blkOk_by (N := ["_law_found", "_law_due", "_law_k"]) (sc := defScope sLike) (by decide +kernel))
            (fun _ _ _ _ _ => pg_name (i := 2) scLike.nd rfl (Or.inl rfl)) (fun _ _ _ _ _ => pts_nil)
            (fun _ _ _ _ _ => pe_call sub hr (by rfl) gL F.kp bL .nil pass0 (pa_cons (pe_ix (r := rIx K) ix_seq (pv 0) (pv 2) (fun _ _ => rfl)) (pa_cons (pe_ix (r := rIx K) ix_seq (pv 1) (pv 2) (fun _ _ => rfl)) pa_nil)))) pa_nil)))))))
        pss_nil)
      (pss_cons (ps_if (PW.pt (pw_or (pt_cmpR op_ne (pe_callB call_isi (by rfl) T.misi (by decide +kernel) (pa_cons (pv 0) (pa_cons (pe_bltn (v := .ty "bool") (by rfl) T.mbool (by decide +kernel) rfl) pa_nil))) (pe_callB call_isi (by rfl) T.misi (by decide +kernel) (pa_cons (pv 1) (pa_cons (pe_bltn (v := .ty "bool") (by rfl) T.mbool (by decide +kernel) rfl) pa_nil))) (nomark _))
          (pw_or1 (pt_cmpR op_ne (pe_callB call_isi (by rfl) T.misi (by decide +kernel) (pa_cons (pv 0) (pa_cons (pe_bltn (v := .ty "int") (by rfl) T.mint (by decide +kernel) rfl) pa_nil))) (pe_callB call_isi (by rfl) T.misi (by decide +kernel) (pa_cons (pv 1) (pa_cons (pe_bltn (v := .ty "int") (by rfl) T.mint (by decide +kernel) rfl) pa_nil))) (nomark _))))) (pss_one (ps_ret pe_bl)) pss_nil)
      (pss_one (ps_ret (pe_and (pe_cmpR op_eq (pe_callB call_isi (by rfl) T.misi (by decide +kernel) (pa_cons (pv 0) (pa_cons (pe_bltn (v := .ty "str") (by rfl) T.mstr (by decide +kernel) rfl) pa_nil))) (pe_callB call_isi (by rfl) T.misi (by decide +kernel) (pa_cons (pv 1) (pa_cons (pe_bltn (v := .ty "str") (by rfl) T.mstr (by decide +kernel) rfl) pa_nil))) (nomark _))
        (pe_one (pe_cmpR op_eq (pv 0) (pv 1) (nomark _)))))))), ?_⟩
    have nn : ∀ {x : V}, x ≠ .non → V.bl (decide (x = V.non)) = V.bl false := fun h => congrArg V.bl (decide_eq_false h)
    have sm : ∀ b : Bool, V.bl (!decide (V.bl b = V.bl b)) = V.bl false := fun b => by rw [decide_eq_true rfl]; rfl
    have three : (d = .none) ∨ (∃ (x : V) (t : String) (cb ci cs : Bool), u = x ∧ v = x ∧ x ≠ .non ∧ scal x x = true ∧ (∀ H, TyX K H x (.type t)) ∧ PySem.W.kitOne K (.type t) (.type "bool") = some cb ∧ PySem.W.kitOne K (.type t) (.type "int") = some ci ∧
        PySem.W.kitOne K (.type t) (.type "str") = some cs ∧ PySem.W.kitOne K (.type t) (.type "list") = some false ∧ PySem.W.kitOne K (.type t) (.type "tuple") = some false) ∨
        (∃ (a a' : Addr) (xs ys : List V) (ds : List PyData) (t : String) (l1 l2 : Bool) (m : Nat), u = .ref a ∧ v = .ref a' ∧ (SqL K H a xs ∨ SqT K H a xs) ∧ (SqL K H a' ys ∨ SqT K H a' ys) ∧ DpAll K H xs ds ∧ DpAll K H ys ds ∧ n = m + 1 ∧ ds.length ≤ 1000 ∧ (∀ d ∈ ds, DLe m d) ∧
          (∀ H', Same H H' → TyX K H' (.ref a) (.type t) ∧ TyX K H' (.ref a') (.type t)) ∧ PySem.W.kitOne K (.type t) (.type "list") = some l1 ∧ PySem.W.kitOne K (.type t) (.type "tuple") = some l2 ∧ (l1 || l2) = true) := by
      cases hd with
      | non => exact .inl rfl
      | bl b =>
        cases hu; cases hv
        exact .inr (.inl ⟨.bl b, "bool", true, true, false, rfl, rfl, (fun z => nomatch z), rfl, fun H => .base (.bl b), kit_ty (by decide +kernel), kit_ty (by decide +kernel), kit_ty (by decide +kernel), kit_ty (by decide +kernel), kit_ty (by decide +kernel)⟩)
      | int i =>
        cases hu; cases hv
        exact .inr (.inl ⟨.int i, "int", false, true, false, rfl, rfl, (fun z => nomatch z), rfl, fun H => .base (.int i), kit_ty (by decide +kernel), kit_ty (by decide +kernel), kit_ty (by decide +kernel), kit_ty (by decide +kernel), kit_ty (by decide +kernel)⟩)
      | str i =>
        cases hu; cases hv
        exact .inr (.inl ⟨.str i, "str", false, false, true, rfl, rfl, (fun z => nomatch z), rfl, fun H => .base (.str i), kit_ty (by decide +kernel), kit_ty (by decide +kernel), kit_ty (by decide +kernel), kit_ty (by decide +kernel), kit_ty (by decide +kernel)⟩)
      | lst hl hds =>
        cases hu with | lst a1 a2 => cases hv with | lst b1 b2 =>
        exact .inr (.inr ⟨_, _, _, _, _, "list", true, false, _, rfl, rfl, .inl a1, .inl b1, a2, b2, rfl, hl, hds, fun H' s' => ⟨ty_lst (s'.seq a1), ty_lst (s'.seq b1)⟩, kit_ty (by decide +kernel), kit_ty (by decide +kernel), rfl⟩)
      | tup hl hds =>
        cases hu with | tup a1 a2 => cases hv with | tup b1 b2 =>
        exact .inr (.inr ⟨_, _, _, _, _, "tuple", false, true, _, rfl, rfl, .inr a1, .inr b1, a2, b2, rfl, hl, hds, fun H' s' => ⟨ty_tup (same_seqT s' a1), ty_tup (same_seqT s' b1)⟩, kit_ty (by decide +kernel), kit_ty (by decide +kernel), rfl⟩)
    rcases three with rfl | ⟨x, t, cb, ci, cs, rfl, rfl, xn, sx, ty, kb, ki, ks, kl, kt⟩ | ⟨a, a', xs, ys, ds, t, l1, l2, m, rfl, rfl, ha, ha', da, da', rfl, hl, hds, ty, kl, kt, k12⟩
    · cases hu; cases hv
      refine ⟨.non, rfl, rfl, true, congrArg V.bl (decide_eq_true rfl), iteT (iteT ?_)⟩
      refine ⟨.non, rfl, rfl, true, congrArg V.bl (decide_eq_true rfl), iteT ⟨.non, rfl, rfl, ?_⟩⟩
      rw [decide_eq_true rfl]
      exact q H (Same.refl H)
    · refine ⟨_, rfl, rfl, false, nn xn, iteF ⟨_, rfl, rfl, false, nn xn, iteF ?_⟩⟩
      refine ⟨_, rfl, by show 2 ≤ sizeLine; decide, fun tt ntt => ⟨_, tt, _, _, _, false, rfl, upd_same, .cons (.ty _) (.cons (.ty _) .nil), ty _, kit_any2 kl kt, false, rfl, iteF ?_⟩⟩
      have s1 := same_upd (o := .tup [V.ty "list", V.ty "tuple"]) ntt
      refine ⟨_, rfl, _, .ty "bool", _, _, cb, rfl, .ty _, ty _, kb, _, rfl, _, .ty "bool", _, _, cb, rfl, .ty _, ty _, kb, rfl, false, sm cb, iteF ?_⟩
      refine ⟨_, rfl, _, .ty "int", _, _, ci, rfl, .ty _, ty _, ki, _, rfl, _, .ty "int", _, _, ci, rfl, .ty _, ty _, ki, rfl, false, sm ci, iteF ?_⟩
      refine ⟨_, rfl, _, .ty "str", _, _, cs, rfl, .ty _, ty _, ks, _, rfl, _, .ty "str", _, _, cs, rfl, .ty _, ty _, ks, rfl, true, congrArg V.bl (decide_eq_true rfl), iteT ?_⟩
      refine ⟨_, rfl, _, rfl, sx, ?_⟩
      rw [decide_eq_true rfl]
      exact q _ s1
    · have an : ∀ b : Addr, V.ref b ≠ V.non := fun b z => nomatch z
      refine ⟨_, rfl, rfl, false, nn (an _), iteF ⟨_, rfl, rfl, false, nn (an _), iteF ?_⟩⟩
      refine ⟨_, rfl, by show 2 ≤ sizeLine; decide, fun tt ntt => ?_⟩
      have s1 := same_upd (o := .tup [V.ty "list", V.ty "tuple"]) ntt
      obtain ⟨ty1, ty2⟩ := ty _ s1
      have lx := dpAll_len da
      have ly := dpAll_len da'
      refine ⟨_, tt, _, _, _, true, rfl, upd_same, .cons (.ty _) (.cons (.ty _) .nil), ty2, (kit_any2 kl kt).trans (congrArg some k12), true, rfl, iteT ?_⟩
      refine ⟨_, rfl, _, .ty "list", _, _, l1, rfl, .ty _, ty1, kl, _, rfl, _, .ty "list", _, _, l1, rfl, .ty _, ty2, kl, rfl, false, sm l1, iteF ?_⟩
      refine ⟨_, rfl, _, .ty "tuple", _, _, l2, rfl, .ty _, ty1, kt, _, rfl, _, .ty "tuple", _, _, l2, rfl, .ty _, ty2, kt, rfl, false, sm l2, iteF ?_⟩
      have sq : ∀ {b : Addr} {zs : List V} {H' : Hp}, Same H H' → (SqL K H b zs ∨ SqT K H b zs) → (SqL K H' b zs ∨ SqT K H' b zs) := fun s' h => h.elim (fun z => .inl (s'.seq z)) (fun z => .inr (same_seqT s' z))
      refine ⟨_, rfl, a, xs, rfl, sq s1 ha, _, rfl, a', ys, rfl, sq s1 ha', rfl, true, ?_, iteT ?_⟩
      · rw [lx, ly, decide_eq_true rfl]
      refine ⟨_, rfl, a', ys, rfl, sq s1 ha', ys.length, rfl, by omega, by omega, fun D nD => ?_⟩
      refine lc_range (lo := 0) (n := (ys.length : Int).toNat) (fun i H2 => Same H H2 ∧ H2 D = some (.lst ((List.replicate i true).map V.bl))) ⟨s1.trans (same_upd nD), upd_same⟩ ?_ ?_
      · rintro i H2 hi ⟨s2, hD⟩
        have e0 : (V.int (0 + (i : Int))) = V.int (i : Nat) := by
          congr 1
          omega
        rw [e0]
        have hid : i < ds.length := by omega
        have gd : ds[i]? = some ds[i] := List.getElem?_eq_getElem hid
        obtain ⟨x1, gx, dx⟩ := dpAll_get da gd
        obtain ⟨y1, gy, dy⟩ := dpAll_get da' gd
        have ix : ∀ {b : Addr} {zs : List V} {z : V} {Qz : VK}, (SqL K H b zs ∨ SqT K H b zs) → zs[i]? = some z → Qz z H2 → rIx K (.ref b) (.int (i : Nat)) H2 Qz := fun h hz hq =>
          (sq s2 h).elim (fun y => .inl ⟨_, _, _, _, rfl, rfl, y, atI_nat hz, hq⟩) (fun y => .inr (.inl ⟨_, _, _, _, rfl, rfl, y, atI_nat hz, hq⟩))
        refine ⟨rfl, _, rfl, _, rfl, ix ha gx ⟨_, rfl, _, rfl, ix ha' gy ?_⟩⟩
        refine ⟨m, rfl, x1, y1, _, rfl, dp_same s2 dx, dp_same s2 dy, hds _ (List.getElem_mem hid), fun H3 s3 => ?_⟩
        have hnD : H D = none := s1.free nD
        refine ⟨_, s3 _ _ hD, ?_, fun b o e => ?_, ?_⟩
        · rw [List.length_map, List.length_replicate]
          exact small1000 (by omega)
        · rw [upd_ne (ne_of_none e hnD)]
          exact s3 _ _ (s2 _ _ e)
        · rw [upd_same, List.replicate_succ', List.map_append]
          rfl
      · rintro H2 ⟨s2, hD⟩
        refine ⟨D, _, rfl, .of hD, ?_⟩
        have e : (List.replicate (ys.length : Int).toNat true).all id = true := by simp
        rw [e]
        exact q H2 s2
/-- at every depth -/
theorem ok_like {f : Addr} {fd : FuncData} (F : Fun K "_law_like" "_law_like" sLike f fd) (T : Blt mg) (ml : mg "list" = none) (bL : Binds K fd ["_law_found", "_law_due"] []) (gL : mg "_law_like" = some (.ref f)) :
    ∀ n : Nat, FnOk P w K mg base CX0 (n + 1) f fd ["_law_found", "_law_due"] (spLike K n)
  | 0 => body_like F T ml bL gL { len := fun vs H Q E h => (by obtain ⟨m, e, _⟩ := h; exact absurd e (by omega)), run := fun A outer s H args us vs Q E _ _ _ _ h => (by obtain ⟨m, e, _⟩ := h; exact absurd e (by omega)) }
  | n + 1 => body_like F T ml bL gL ((ok_like F T ml bL gL n).imp fun vs H Q E h => by obtain ⟨m, e, h⟩ := h; cases e; exact h)
end
end KT

namespace KT
open PySem PySem.Spec PyProof.Rows L2
section
variable {zs : List Str} {pl : Nat}
theorem sc_nol {d : PyData} (h : ScD d) : NoL d := by
  rcases h with ⟨z, rfl⟩ | ⟨i, rfl⟩
  · exact .str _
  · exact .int _
theorem deeds_nol : ∀ x ∈ deedsL zs pl, NoL (.tuple x) := fun x hx => .tup fun d hd => sc_nol (deeds_sc x hx d hd)
theorem deeds_len (lz : zs.length ≤ 3) (lp : pl ≤ 2) : (deedsL zs pl).length ≤ 99 := by
  have a : (deedsA zs pl).length ≤ 18 := flat_len (c := 6) fun w _ => Nat.le_trans (flat_len (c := 2) fun n _ => by unfold rowA; rw [List.length_map, List.length_range]; exact lp) (by omega)
  have b : (deedsB zs pl).length ≤ 36 := by
    refine Nat.le_trans (flat_len (c := 12) fun n _ => ?_) (by omega)
    have f := List.length_filter_le (fun f => !decide (f = n)) zs
    refine Nat.le_trans (flat_len (c := 4) fun g _ => ?_) (by omega)
    refine Nat.le_trans (flat_len (c := 2) fun p _ => ?_) (by rw [List.length_range]; omega)
    unfold rowB
    rw [List.length_map, List.length_range]
    exact lp
  have c : (deedsC zs).length ≤ 45 := by
    refine flat_len (c := 9) fun w _ => Nat.le_trans (flat_len (c := 3) fun n _ => ?_) (by omega)
    unfold rowC
    split
    · show 1 ≤ 3
      omega
    split
    · show 2 ≤ 3
      omega
    · rw [List.length_map]
      exact Nat.le_trans (List.length_filter_le _ _) lz
  unfold deedsL
  rw [List.length_append, List.length_append]
  omega
theorem deeds_pos (lz : 0 < zs.length) : 0 < (deedsL zs pl).length := by
  refine List.length_pos_iff.mpr fun e => ?_
  have : [PyData.str "pass", .str zs[0]] ∈ deedsL zs pl := mem_L.mpr (.inr (.inr (mem_C.mpr ⟨"pass", by simp, zs[0], List.getElem_mem lz, by unfold rowC; rw [if_pos rfl]; exact List.mem_singleton.mpr rfl⟩)))
  rw [e] at this
  cases this
theorem deeds_short : ∀ x ∈ deedsL zs pl, 1 ≤ x.length ∧ x.length ≤ 5 := by
  intro x hx
  rcases mem_L.mp hx with hx | hx | hx
  · obtain ⟨w, _, n, _, p, _, rfl⟩ := mem_A.mp hx
    exact ⟨by show 1 ≤ 3; omega, by show 3 ≤ 5; omega⟩
  · obtain ⟨n, _, f, _, _, p, _, g, _, rfl⟩ := mem_B.mp hx
    exact ⟨by show 1 ≤ 5; omega, by show 5 ≤ 5; omega⟩
  · obtain ⟨w, _, n, _, hx⟩ := mem_C.mp hx
    unfold rowC at hx
    split at hx
    · rw [List.mem_singleton.mp hx]
      exact ⟨by show 1 ≤ 2; omega, by show 2 ≤ 5; omega⟩
    split at hx
    · rcases List.mem_cons.mp hx with rfl | hx
      · exact ⟨by show 1 ≤ 3; omega, by show 3 ≤ 5; omega⟩
      · rw [List.mem_singleton.mp hx]
        exact ⟨by show 1 ≤ 3; omega, by show 3 ≤ 5; omega⟩
    · obtain ⟨f, _, rfl⟩ := List.mem_map.mp hx
      exact ⟨by show 1 ≤ 3; omega, by show 3 ≤ 5; omega⟩
/-- data that may be laid and is flat enough -/
def Sm (n : Nat) (d : PyData) : Prop := d.canLay0 = true ∧ d.depth ≤ n
theorem Sm.shaped {n : Nat} {d : PyData} (h : Sm n d) (hn : n ≤ 64) : SeqAt.shaped d = true := by
  unfold SeqAt.shaped
  rw [Bool.and_eq_true, decide_eq_true_iff]
  exact ⟨h.1, Nat.le_trans h.2 hn⟩
theorem sm_all {n : Nat} : ∀ {ds : List PyData}, (∀ d ∈ ds, Sm n d) → PyData.canLayAll0 ds = true ∧ PyData.depthAll ds ≤ n
  | [], _ => ⟨by simp [PyData.canLayAll0], by simp [PyData.depthAll]⟩
  | d :: ds, h => by
    have a := h d List.mem_cons_self
    have b := sm_all fun x hx => h x (List.mem_cons_of_mem d hx)
    refine ⟨by simp [PyData.canLayAll0, a.1, b.1], ?_⟩
    simp only [PyData.depthAll]
    have := a.2
    omega
theorem sm_tuple {n : Nat} {ds : List PyData} (h : ∀ d ∈ ds, Sm n d) : Sm (n + 1) (.tuple ds) := by
  obtain ⟨a, b⟩ := sm_all h
  exact ⟨by simp [PyData.canLay0, a], by simp only [PyData.depth]; omega⟩
theorem sm_list {n : Nat} {ds : List PyData} (h : ∀ d ∈ ds, Sm n d) : Sm (n + 1) (.list ds) := by
  obtain ⟨a, b⟩ := sm_all h
  exact ⟨by simp [PyData.canLay0, a], by simp only [PyData.depth]; omega⟩
theorem sm_int {n : Nat} (i : Int) : Sm n (.int i) := ⟨by simp [PyData.canLay0], by simp [PyData.depth]⟩
theorem sm_bool {n : Nat} (b : Bool) : Sm n (.bool b) := ⟨by simp [PyData.canLay0], by simp [PyData.depth]⟩
theorem sm_none {n : Nat} : Sm n .none := ⟨by simp [PyData.canLay0], by simp [PyData.depth]⟩
theorem sm_str {n : Nat} {z : Str} (h : PyData.strOk z = true) : Sm n (.str z) := ⟨by simp [PyData.canLay0, h], by simp [PyData.depth]⟩
theorem Sm.up {n k : Nat} {d : PyData} (h : Sm n d) (e : n ≤ k) : Sm k d := ⟨h.1, Nat.le_trans h.2 e⟩
end
end KT

namespace KT
open PySem PySem.Spec PyProof.Rows L2
/-- what is no list stays -/
def Lk (H H' : Hp) : Prop := ∀ a o, H a = some o → (∀ l, o ≠ .lst l) → H' a = some o
theorem Lk.trans {H H1 H2 : Hp} (x : Lk H H1) (y : Lk H1 H2) : Lk H H2 := fun a o e n => y a o (x a o e n) n
theorem Lk.refl (H : Hp) : Lk H H := fun _ _ e _ => e
theorem Same.lk {H H' : Hp} (s : Same H H') : Lk H H' := fun a o e _ => s a o e
theorem Lk.put {H : Hp} {p : Addr} {l : List V} {o : HO} (h : H p = some (.lst l)) : Lk H (upd H p o) := fun a u e n => by
  rw [upd_ne fun z => by rw [z, h] at e; exact n l (Option.some.inj e).symm]
  exact e
theorem But.lk {H H' : Hp} {b : Addr} {l : List V} (h : H b = some (.lst l)) (s : But b H H') : Lk H H' := fun a u e n => s a u e fun z => by rw [z, h] at e; exact n l (Option.some.inj e).symm
section
variable {K : PySem.W.Frag} {H H' : Hp}
theorem lk_seqT (s : Lk H H') {a : Addr} {xs : List V} (h : SqT K H a xs) : SqT K H' a xs := by
  rcases h with (h | ⟨o, h⟩) | h
  · exact .inl (.inl (s _ _ h fun l z => nomatch z))
  · exact .inl (.inr ⟨o, s _ _ h fun l z => nomatch z⟩)
  · exact .inr h
mutual
theorem dp_lk (s : Lk H H') : ∀ {v : V} {d : PyData}, NoL d → Dp K H v d → Dp K H' v d
  | _, _, _, .non => .non
  | _, _, _, .bl b => .bl b
  | _, _, _, .int i => .int i
  | _, _, _, .str x => .str x
  | _, _, n, .lst _ _ => nomatch n
  | _, _, .tup n, .tup h1 h2 => .tup (lk_seqT s h1) (dpAll_lk s n h2)
theorem dpAll_lk (s : Lk H H') : ∀ {vs : List V} {ds : List PyData}, (∀ d ∈ ds, NoL d) → DpAll K H vs ds → DpAll K H' vs ds
  | _, _, _, .nil => .nil
  | _, _, n, .cons h1 h2 => .cons (dp_lk s (n _ List.mem_cons_self) h1) (dpAll_lk s (fun d hd => n d (List.mem_cons_of_mem _ hd)) h2)
end
end
section
variable {H : Hp} {b c : Addr}
theorem Bag.lst (B : Bag H b c) : ∃ l, H b = some (.lst l) := by
  obtain ⟨ns, i, g, s, t, _, h, _⟩ := B
  exact ⟨_, h⟩
end
theorem dpAll_take {K : PySem.W.Frag} {H : Hp} : ∀ {xs : List V} {ds : List PyData} (n : Nat), DpAll K H xs ds → DpAll K H (xs.take n) (ds.take n)
  | _, _, 0, _ => by rw [List.take_zero, List.take_zero]; exact .nil
  | _, _, _ + 1, .nil => .nil
  | _, _, n + 1, .cons a b => .cons a (dpAll_take n b)
theorem dpAll_drop {K : PySem.W.Frag} {H : Hp} : ∀ {xs : List V} {ds : List PyData} (n : Nat), DpAll K H xs ds → DpAll K H (xs.drop n) (ds.drop n)
  | _, _, 0, h => h
  | _, _, _ + 1, .nil => .nil
  | _, _, n + 1, .cons _ b => dpAll_drop n b
theorem fm_map {α β : Type} (l : List α) (g : α → β) : (List.range l.length).filterMap (fun k => l[k]?.map g) = l.map g := by
  have : ∀ n, (List.range n).filterMap (fun k => l[k]?.map g) = (l.take n).map g := by
    intro n
    induction n with
    | zero => rfl
    | succ n ih =>
      rw [fm_succ, ih, List.take_add_one, List.map_append]
      congr 1
      cases l[n]? <;> rfl
  rw [this, List.take_length]
theorem name_ok {z : Str} (h : NameS z) : PyData.strOk z = true := by
  unfold PyData.strOk
  rw [← Array.all_toList]
  refine List.all_eq_true.mpr fun c hc => ?_
  have := h.al c hc
  unfold LC at this
  exact decide_eq_true (by omega)
theorem deeds_sm {zs : List Str} {pl : Nat} (ok : ∀ z ∈ zs, PyData.strOk z = true) : ∀ x ∈ deedsL zs pl, ∀ d ∈ x, Sm 1 d := by
  have two : ∀ {a b : PyData}, Sm 1 a → Sm 1 b → ∀ d ∈ [a, b], Sm 1 d := fun ha hb d hd => by
    rcases List.mem_cons.mp hd with rfl | hd
    · exact ha
    · rw [List.mem_singleton.mp hd]; exact hb
  have three : ∀ {a b c : PyData}, Sm 1 a → Sm 1 b → Sm 1 c → ∀ d ∈ [a, b, c], Sm 1 d := fun ha hb hc d hd => by
    rcases List.mem_cons.mp hd with rfl | hd
    · exact ha
    · exact two hb hc d hd
  have wk : ∀ w ∈ (["make", "restore", "drop", "merge", "squash", "pass", "hear", "mean", "pick", "in", "out"] : List Str), PyData.strOk w = true := by decide +kernel
  intro x hx
  rcases mem_L.mp hx with hx | hx | hx
  · obtain ⟨w, hw, n, hn, p, _, rfl⟩ := mem_A.mp hx
    refine three (sm_str (wk w ?_)) (sm_str (ok n hn)) (sm_int _)
    simp only [List.mem_cons, List.not_mem_nil, or_false] at hw ⊢
    rcases hw with h | h | h <;> simp [h]
  · obtain ⟨n, hn, f, hf, _, p, _, g, _, rfl⟩ := mem_B.mp hx
    intro d hd
    rcases List.mem_cons.mp hd with rfl | hd
    · exact sm_str (wk "pick" (by simp))
    rcases List.mem_cons.mp hd with rfl | hd
    · exact sm_str (ok n hn)
    · exact three (sm_str (ok f hf)) (sm_int _) (sm_int _) d hd
  · obtain ⟨w, hw, n, hn, hx⟩ := mem_C.mp hx
    have hw2 : PyData.strOk w = true := by
      refine wk w ?_
      simp only [List.mem_cons, List.not_mem_nil, or_false] at hw ⊢
      rcases hw with h | h | h | h | h <;> simp [h]
    unfold rowC at hx
    split at hx
    · rw [List.mem_singleton.mp hx]
      exact two (sm_str hw2) (sm_str (ok n hn))
    split at hx
    · rcases List.mem_cons.mp hx with rfl | hx
      · exact three (sm_str hw2) (sm_str (ok n hn)) (sm_str (wk "in" (by simp)))
      · rw [List.mem_singleton.mp hx]
        exact three (sm_str hw2) (sm_str (ok n hn)) (sm_str (wk "out" (by simp)))
    · obtain ⟨f, hf, rfl⟩ := List.mem_map.mp hx
      exact three (sm_str hw2) (sm_str (ok n hn)) (sm_str (ok f (List.mem_filter.mp hf).1))
theorem kit_bool (d : PyData) (h : d.canLay0 = true ∨ True) {K : PySem.W.Frag} {H : Hp} {v : V} (hv : Dp K H v d) : kitB (tyD d) "bool" = some (isBoolD d) := by
  cases hv with
  | non => exact (by decide +kernel : kitB "NoneType" "bool" = some false)
  | bl b => exact (by decide +kernel : kitB "bool" "bool" = some true)
  | int i => exact (by decide +kernel : kitB "int" "bool" = some false)
  | str z => exact (by decide +kernel : kitB "str" "bool" = some false)
  | lst _ _ => exact (by decide +kernel : kitB "list" "bool" = some false)
  | tup _ _ => exact (by decide +kernel : kitB "tuple" "bool" = some false)
theorem nol_prF {d : PyData} (h : NoL d) : NoL (prF d) := .tup fun x hx => by
  rcases List.mem_cons.mp hx with rfl | hx
  · exact .bl _
  · rw [List.mem_singleton.mp hx]
    exact h
theorem nol_prK {d : PyData} (h : NoL d) : NoL (prK d) := .tup fun x hx => by
  rcases List.mem_cons.mp hx with rfl | hx
  · exact .bl _
  · rw [List.mem_singleton.mp hx]
    exact h
theorem sm_prF {n : Nat} {d : PyData} (h : Sm n d) : Sm (n + 1) (prF d) := sm_tuple fun x hx => by
  rcases List.mem_cons.mp hx with rfl | hx
  · exact sm_bool _
  · rw [List.mem_singleton.mp hx]
    exact h
theorem sm_prK {n : Nat} {d : PyData} (h : Sm n d) : Sm (n + 1) (prK d) := sm_tuple fun x hx => by
  rcases List.mem_cons.mp hx with rfl | hx
  · exact sm_bool _
  · rw [List.mem_singleton.mp hx]
    exact h
theorem dpAll_at {K : PySem.W.Frag} {H : Hp} : ∀ {xs : List V} {ds : List PyData}, xs.length = ds.length → (∀ (j : Nat) (x : V) (d : PyData), xs[j]? = some x → ds[j]? = some d → Dp K H x d) → DpAll K H xs ds
  | [], [], _, _ => .nil
  | [], _ :: _, e, _ => by cases e
  | _ :: _, [], e, _ => by cases e
  | x :: xs, d :: ds, e, h => .cons (h 0 x d rfl rfl) (dpAll_at (Nat.succ.inj e) fun j y c h1 h2 => h (j + 1) y c h1 h2)
/-- the law between two turns -/
structure LS (K : PySem.W.Frag) (C : Addr) (G : Hp) (b c g n x L : Addr) (zs : List Str) (pl : Nat) (tb wd : Str) : Prop where
  bag : Bag G b c
  hg : G g = some (.tup [.ref n, .int pl, .str tb, .str wd])
  hn : G n = some (.tup (zs.map V.str))
  hL : G L = some (.lst (zs.map V.str))
  Lb : L ≠ b
  hx : ShpAt K C G x zs pl
section
variable {K : PySem.W.Frag} {C : Addr} {G G' : Hp} {b c g n x L : Addr} {zs : List Str} {pl : Nat} {tb wd : Str}
theorem LS.same (S : LS K C G b c g n x L zs pl tb wd) (s : Same G G') : LS K C G' b c g n x L zs pl tb wd := ⟨S.bag.same s, s _ _ S.hg, s _ _ S.hn, s _ _ S.hL, S.Lb, S.hx.same s⟩
theorem LS.but (S : LS K C G b c g n x L zs pl tb wd) (s : But b G G') (B : Bag G' b c) : LS K C G' b c g n x L zs pl tb wd := by
  obtain ⟨l, hb⟩ := Bag.lst S.bag
  have k := But.lk hb s
  obtain ⟨dx, p, fs, a1, a2, a3, a4, a5⟩ := S.hx
  exact ⟨B, k _ _ S.hg (fun l z => nomatch z), k _ _ S.hn (fun l z => nomatch z), s _ _ S.hL S.Lb, S.Lb, dx, p, fs, k _ _ a1 (fun l z => nomatch z), a2, a3, lk_seqT k a4, a5⟩
theorem LS.ne (S : LS K C G b c g n x L zs pl tb wd) {l : Addr} (h : G l = none) : l ≠ b := fun e => by
  obtain ⟨u, hb⟩ := Bag.lst S.bag
  rw [e, hb] at h
  cases h
theorem LS.lk (S : LS K C G b c g n x L zs pl tb wd) (s : But b G G') : Lk G G' := by
  obtain ⟨l, hb⟩ := Bag.lst S.bag
  exact But.lk hb s
end
end KT

namespace KT
open PySem PySem.Spec PyProof.Rows L2
abbrev lawN : List Str := ["_law_script", "_law_bag", "_law_ground_here", "_law_shape_z", "_law_names_here", "_law_turn", "_law_deed", "_law_at", "_law_odd", "_law_bent", "_law_part", "_law_kinds", "_law_one", "_law_due"]
theorem scLaw : FnScope ["_law_script", "_law_bag", "_law_ground_here", "_law_shape_z", "_law_names_here", "_law_turn", "_law_deed", "_law_at", "_law_odd", "_law_bent", "_law_part", "_law_kinds", "_law_one", "_law_due"] ["_law_script"] (defScope sLaw) := ⟨rfl, rfl, rfl, by decide +kernel, rfl, by decide +kernel, by decide +kernel⟩
def lawSc : Scope := { kind := .function, names := [((".0" : Str), .local), (("_law_one" : Str), .local)], isGenerator := false, isCoroutine := false }
def swG {α : Type} : List α → List α → List α := fun us ws => us ++ ws.reverse
section
variable {P : Program} {w : World} {K : PySem.W.Frag} {mg : Str → Option Value} {base : Heap} {C : Addr}
def spLaw (K : PySem.W.Frag) : Sp := fun vs H Q _ => ∃ (a : Addr) (ns : List Int), vs = [.ref a] ∧ SqL K H a (ns.map V.int) ∧ ns.length ≤ 63 ∧ ∀ H', Q (.bl true) H'
set_option maxHeartbeats 16000000 in
theorem ok_law {f fO fG fS fA fD fI fP fL : Addr} {fd fdO fdG fdS fdA fdD fdI fdP fdL : FuncData} {k : Nat} (F : Fun K "law" "law" sLaw f fd) (T : Blt mg) (ml : mg "list" = none)
    (GO : FnOk P w K mg base CX0 (k + 1) fO fdO ["_law_script"] (spOpened K)) (kO : PySem.W.keepIn K (.ref fO) = true) (bO : Binds K fdO ["_law_script"] []) (gO : mg "_law_opened" = some (.ref fO))
    (GP : FnOk P w K mg base CX0 (k + 1) fP fdP ["_law_bag", "_law_many"] spPull) (kP : PySem.W.keepIn K (.ref fP) = true) (bP : Binds K fdP ["_law_bag", "_law_many"] []) (gP : mg "_law_pull" = some (.ref fP))
    (GA : FnOk P w K mg base CX0 (k + 2) fA fdA ["_law_bag", "_law_things"] spAny) (kA : PySem.W.keepIn K (.ref fA) = true) (bA : Binds K fdA ["_law_bag", "_law_things"] []) (gA : mg "_law_any" = some (.ref fA))
    (GG : FnOk P w K mg base CX0 (k + 4) fG fdG ["_law_bag", "_law_most"] spGround) (kG : PySem.W.keepIn K (.ref fG) = true) (bG : Binds K fdG ["_law_bag", "_law_most"] []) (gG : mg "_law_ground" = some (.ref fG))
    (GS : FnOk P w K mg base CX0 (k + 5) fS fdS ["_law_ground_here"] (spShape C)) (kS : PySem.W.keepIn K (.ref fS) = true) (bS : Binds K fdS ["_law_ground_here"] []) (gS : mg "_law_shape" = some (.ref fS))
    (GD : FnOk P w K mg base CX0 (k + 1) fD fdD ["_law_ground_here"] (spDeeds K)) (kD : PySem.W.keepIn K (.ref fD) = true) (bD : Binds K fdD ["_law_ground_here"] []) (gD : mg "_law_deeds" = some (.ref fD))
    (GI : FnOk P w K mg base CX0 (k + 4) fI fdI ["shape", "value"] (spDeed K C)) (kI : PySem.W.keepIn K (.ref fI) = true) (bI : Binds K fdI ["shape", "value"] []) (kwI : KBn K fdI ["shape", "value"] 0 (["value", "shape"] : List Str) swG swG) (gI : mg "is_deed" = some (.ref fI))
    (GL : FnOk P w K mg base CX0 (k + 1) fL fdL ["_law_found", "_law_due"] (spLike K 0)) (kL : PySem.W.keepIn K (.ref fL) = true) (bL : Binds K fdL ["_law_found", "_law_due"] []) (gL : mg "_law_like" = some (.ref fL)) :
    FnOk P w K mg base CX0 (k + 6) f fd ["_law_script"] (spLaw K) := by
  refine F.ok scLaw (fun vs H Q E h => ?_) (fun cdv A outer s H vs Q E hr h => ?_)
  · obtain ⟨a, ns, rfl, _⟩ := h
    rfl
  · obtain ⟨a, ns, rfl, hS, hlen, q⟩ := h
    have nd := scLaw.nd
    refine ⟨_, (pss_cons (ps_set (i := 1) nd rfl (.inl rfl) (pe_call GO (hr.mono (by omega)) (by rfl) gO kO bO .nil pass0 (pa_cons (pv 0) pa_nil)))
      (pss_cons (ps_set (i := 2) nd rfl (.inl rfl) (pe_call GG (hr.mono (by omega)) (by rfl) gG kG bG .nil pass0 (pa_cons (pv 1) (pa_cons pe_int pa_nil))))
      (pss_cons (ps_par (i := 3) (j := 4) rfl nd rfl rfl (by decide) rfl rfl (pa_cons (pe_call GS (hr.mono (by omega)) (by rfl) gS kS bS .nil pass0 (pa_cons (pv 2) pa_nil)) (pa_cons (pe_callTy (r := rLstOf K) call_list_of (by rfl) ml (by decide +kernel) (pa_cons (pe_ix (r := rIx K) ix_seq (pv 2) pe_int (fun _ _ => rfl)) pa_nil)) pa_nil)) (by rfl))
      (pss_cons (ps_for PassesOwn.never rfl (pi_range1 rfl T.mrange (pa_cons pe_int pa_nil)) (pg_name (i := 5) nd rfl (.inl rfl)) (pss_cons (ps_set (i := 6) nd rfl (.inl rfl) (pe_call GA (hr.mono (by omega)) (by rfl) gA kA bA .nil pass0 (pa_cons (pv 1) (pa_cons (pe_call GD (hr.mono (by omega)) (by rfl) gD kD bD .nil pass0 (pa_cons (pv 2) pa_nil)) pa_nil))))
      (pss_cons (ps_if (PW.pt (pw_or (pt_cmpR op_notBl (pe_call GI (hr.mono (by omega)) (by rfl) gI kI bI .nil pass0 (pa_cons (pv 3) (pa_cons (pv 6) pa_nil))) pe_bl (nomark _)) (pw_or1 (pt_cmpR op_notBl (pe_callN0 GI (hr.mono (by omega)) (by rfl) gI kI kwI pass0 (pk_cons (pe_callTy (r := rLstOf K) call_list_of (by rfl) ml (by decide +kernel) (pa_cons (pv 6) pa_nil)) (pk_cons (pv 3) pk_nil))) pe_bl (nomark _))))) (pss_one (ps_ret pe_bl)) pss_nil)
      (pss_cons (ps_set (i := 7) nd rfl (.inl rfl) (pe_call GP (hr.mono (by omega)) (by rfl) gP kP bP .nil pass0 (pa_cons (pv 1) (pa_cons (pe_callB call_len_seq (by rfl) T.mlen PySem.boot_len (pa_cons (pv 6) pa_nil)) pa_nil))))
      (pss_cons (ps_set (i := 8) nd rfl (.inl rfl) (pe_call GA (hr.mono (by omega)) (by rfl) gA kA bA .nil pass0 (pa_cons (pv 1) (pa_cons (pe_lst (pa_cons pe_non (pa_cons pe_str (pa_cons pe_str (pa_cons (pe_ix (r := rIx K) ix_seq (pv 2) pe_int (fun _ _ => rfl)) (pa_cons (pe_op op_sub pe_int pe_int) (pa_cons pe_bl (pa_cons (pe_tup (pa_cons pe_int pa_nil)) (pa_cons pe_str (pa_cons pe_int (pa_cons pe_int (pa_cons pe_str (pa_cons (pe_ix (r := rIx K) ix_seq (pv 4) pe_int (fun _ _ => rfl)) (pa_cons (pe_ix (r := rIx K) ix_seq (pv 4) pe_int (fun _ _ => rfl)) (pa_cons pe_str pa_nil))))))))))))))) pa_nil))))
      (pss_cons (ps_set (i := 9) nd rfl (.inl rfl) (pe_call GA (hr.mono (by omega)) (by rfl) gA kA bA .nil pass0 (pa_cons (pv 1) (pa_cons (pe_lst (pa_cons (pe_op op_catA (pe_op op_catA (pe_slice sl_tupA (pv 6) po_none (po_some (pv 7))) (pe_tup (pa_cons (pv 8) pa_nil))) (pe_slice sl_tupA (pv 6) (po_some (pe_op op_add (pv 7) pe_int)) po_none)) (pa_cons (pe_op op_catA (pv 6) (pe_tup (pa_cons (pv 8) pa_nil))) (pa_cons (pe_op op_catA (pe_slice sl_tupA (pv 6) po_none (po_some (pv 7))) (pe_slice sl_tupA (pv 6) (po_some (pe_op op_add (pv 7) pe_int)) po_none)) (pa_cons (pe_tup pa_nil) (pa_cons pe_non (pa_cons pe_int (pa_cons (pe_ix (r := rIx K) ix_seq (pv 6) pe_int (fun _ _ => rfl)) (pa_cons (pe_tup (pa_cons (pv 6) pa_nil)) pa_nil))))))))) pa_nil))))
      (pss_cons (ps_set (i := 11) nd rfl (.inl rfl) (pe_ifExp (pt_val (pe_callB call_isi (by rfl) T.misi (by decide +kernel) (pa_cons (pv 9) (pa_cons (pe_bltn (v := .ty "tuple") (by rfl) T.mtuple (by decide +kernel) rfl) pa_nil)))) (pe_lc (own := [("_law_part", 10)]) (g := gName 10) (tt := tYes) rfl nd (pi_tup (pv 9)) (blkOk_by (N := lawN) (sc := defScope sLaw) (by decide +kernel)) (fun _ _ _ _ _ => pg_name (i := 10) nd rfl (.inl rfl)) (fun _ _ _ _ _ => pts_nil) (fun _ _ _ _ _ => (pe_tup (pa_cons (pe_callB (r := rIsi K) (id := "isinstance") call_isi (by rfl) T.misi (by decide +kernel) (pa_cons (pv 10) (pa_cons (pe_bltn (v := .ty "bool") (by rfl) T.mbool (by decide +kernel) rfl) pa_nil))) (pa_cons (pv 10) pa_nil))))) (pe_lst pa_nil)))
      (pss_cons (ps_set (i := 13) nd rfl (.inl rfl) (pe_and (pe_cmpR (op_neD hr.units) (pv 11) (pe_lst pa_nil) (nomark _)) (pe_one (pe_cmpR (op_inD (room65 hr)) (pv 11) (pe_lc (own := [("_law_one", 12)]) (g := gName 12) (tt := tYes) (te := tLc (iTup K (tVar 12)) (gName 10) tYes (tTup (tCons (tC (.bl false)) (tCons (tVar 10) tNil))) [10]) rfl nd (pi_list (pe_call GD (hr.mono (by omega)) (by rfl) gD kD bD .nil pass0 (pa_cons (pv 2) pa_nil))) (blkOk_by (N := lawN) (sc := defScope sLaw) (by decide +kernel)) (fun _ _ _ _ _ => pg_name (i := 12) nd rfl (.inl rfl)) (fun _ _ _ _ _ => pts_nil) (fun _ _ _ _ _ => (pe_lc (own := [("_law_part", 10)]) (g := gName 10) (tt := tYes) (wi := iTup K (tVar 12)) (te := tTup (tCons (tC (.bl false)) (tCons (tVar 10) tNil))) rfl nd (pi_tup (pv 12)) (blkOk_by (N := lawN) (sc := lawSc) (by decide +kernel)) (fun _ _ _ _ _ => pg_name (i := 10) nd rfl (.inl rfl)) (fun _ _ _ _ _ => pts_nil) (fun _ _ _ _ _ => (pe_tup (pa_cons pe_bl (pa_cons (pv 10) pa_nil))))))) (by rfl)))))
      (pss_one (ps_if (pt_not (pt_val (pe_call GL (hr.mono (by omega)) (by rfl) gL kL bL .nil pass0 (pa_cons (pe_call GI (hr.mono (by omega)) (by rfl) gI kI bI .nil pass0 (pa_cons (pv 3) (pa_cons (pv 9) pa_nil))) (pa_cons (pv 13) pa_nil))))) (pss_one (ps_ret pe_bl)) pss_nil))))))))))
      (pss_one (ps_ret pe_bl)))))), ?_⟩
    refine ⟨.ref a, rfl, a, ns, rfl, hS, hlen, fun H1 b c nb nc s1 B1 => ?_⟩
    refine ⟨.ref b, rfl, b, c, 3, rfl, B1, by decide, by decide, fun H2 g n zs pl tb wd ng nn gn bt B2 zl G => ?_⟩
    refine ⟨.ref g, rfl, g, n, zs, pl, tb, wd, rfl, G, fun H3 x p nx s3 SA => ?_⟩
    refine ⟨.ref g, rfl, ixT (n := 0) (.of (s3 _ _ G.gt)) rfl ⟨n, zs.map V.str, rfl, .inr (.of (s3 _ _ G.nt)), fun L nL => ⟨_, _, rfl, ?_⟩⟩⟩
    have s4 := same_upd (o := .lst (zs.map V.str)) nL
    have B3 := B2.same s3
    have ok : ∀ z ∈ zs, PyData.strOk z = true := fun z hz => name_ok (G.nm z hz)
    have S0 : LS K C (upd H3 L (.lst (zs.map V.str))) b c g n x L zs pl tb wd := by
      obtain ⟨⟨dx, ob⟩, tp⟩ := SA
      refine ⟨B3.same s4, s4 _ _ (s3 _ _ G.gt), s4 _ _ (s3 _ _ G.nt), upd_same, fun e => ?_, dx, p, _, s4 _ _ ob, ?_, ?_, .of (s4 _ _ tp), ok⟩
      · obtain ⟨u, hb⟩ := Bag.lst B3
        rw [e, hb] at nL
        cases nL
      · unfold sflds
        rw [lookup_putF, if_neg (by decide), lookup_putF, if_neg (by decide), lookup_putF, if_neg (by decide), lookup_putF, if_neg (by decide), lookup_putF, if_pos rfl]
      · unfold sflds
        rw [lookup_putF, if_neg (by decide), lookup_putF, if_neg (by decide), lookup_putF, if_neg (by decide), lookup_putF, if_pos rfl]
    generalize upd H3 L (.lst (zs.map V.str)) = H4 at *
    have zlo := G.lo
    have zhi := G.hi
    have plo := G.p1
    have phi := G.p2
    clear G
    refine ⟨6, rfl, by omega, by omega, ?_⟩
    refine for_range (lo := 0) (n := 6) (fun i σ G' => ∃ y5 y6 y7 y8 y9 y11 y13 : Option V, σ = [some (.ref a), some (.ref b), some (.ref g), some (.ref x), some (.ref L), y5, y6, y7, y8, y9, none, y11, none, y13] ∧ LS K C G' b c g n x L zs pl tb wd) ⟨_, _, _, _, _, _, _, rfl, S0⟩ ?_ (fun σ G' ⟨_, _, _, _, _, _, _, _, _⟩ => q G')
    rintro i σ G1 hi ⟨y5, y6, y7, y8, y9, y11, y13, rfl, S1⟩
    -- a deed
    refine ⟨.ref b, rfl, .ref g, rfl, g, n, zs, pl, tb, wd, rfl, .of S1.hg, .of S1.hn, zhi, phi, fun G2 l U => ?_⟩
    obtain ⟨nl, s12, acc, hl, dacc⟩ := U
    have S2 := S1.same s12
    have la : acc.length = (deedsL zs pl).length := by rw [dpAll_len dacc, List.length_map]
    have ll := deeds_len (zs := zs) (pl := pl) zhi phi
    refine ⟨b, c, .ref l, rfl, S2.bag, .inl ⟨l, acc, rfl, hl, S1.ne nl, by rw [la]; exact deeds_pos (by omega), by omega, fun r v G3 hv bt3 B3 => ?_⟩⟩
    have S3 := S2.but bt3 B3
    obtain ⟨rl, _⟩ := List.getElem?_eq_some_iff.mp hv
    have rd : r < (deedsL zs pl).length := by omega
    obtain ⟨v', gv, dv⟩ := dpAll_get dacc (i := r) (d := .tuple (deedsL zs pl)[r]) (by rw [List.getElem?_map, List.getElem?_eq_getElem rd]; rfl)
    rw [hv] at gv
    obtain rfl := Option.some.inj gv
    have hmem := List.getElem_mem rd
    generalize (deedsL zs pl)[r] = items at *
    have dv3 := dp_lk (S2.lk bt3) (deeds_nol items hmem) dv
    obtain ⟨t, vs, rfl, tv, dvs⟩ : ∃ t vs, v = .ref t ∧ SqT K G3 t vs ∧ DpAll K G3 vs items := by
      cases dv3 with
      | tup a b => exact ⟨_, _, rfl, a, b⟩
    have lv := dpAll_len dvs
    obtain ⟨l1, l5⟩ := deeds_short items hmem
    have sm := deeds_sm ok items hmem
    have nol : ∀ d ∈ items, NoL d := fun d hd => sc_nol (deeds_sc items hmem d hd)
    refine ⟨.ref x, rfl, .ref t, rfl, x, .ref t, .tuple items, zs, pl, rfl, S3.hx, .tup tv dvs, fun ds e => ?_, fun G4 s4 => ?_⟩
    · cases e
      exact ⟨by omega, fun y hy => (sm y hy).shaped (by omega)⟩
    rw [judge_mem.mpr hmem]
    refine ⟨true, true, rfl, rfl, false, rfl, iteF ?_⟩
    refine ⟨.ref t, rfl, t, vs, rfl, .inr (same_seqT s4 tv), fun l2 nl2 => ⟨.ref x, rfl, rfl, rfl, ?_⟩⟩
    have s5 := same_upd (o := .lst vs) nl2
    refine ⟨x, .ref l2, .list items, zs, pl, rfl, (S3.hx.same s4).same s5, .lst (.of upd_same) (dpAll_same s5 (dpAll_same s4 dvs)), (fun ds e => nomatch e), fun G5 s6 => ⟨false, false, rfl, rfl, false, rfl, iteF ?_⟩⟩
    -- where
    have s46 := (s4.trans s5).trans s6
    have S5 := S3.same s46
    have tv5 := same_seqT s46 tv
    have dvs5 := dpAll_same s46 dvs
    refine ⟨.ref b, rfl, .ref t, rfl, t, vs, rfl, .inr tv5, b, c, (vs.length : Nat), rfl, S5.bag, by omega, by omega, fun r5 G6 r0 r1 bt6 B6 => ?_⟩
    obtain ⟨m, hm, rfl⟩ : ∃ m : Nat, m < vs.length ∧ r5 = (m : Int) := ⟨r5.toNat, by omega, by omega⟩
    have S6 := S5.but bt6 B6
    have tv6 := lk_seqT (S5.lk bt6) tv5
    have dvs6 := dpAll_lk (S5.lk bt6) nol dvs5
    -- something odd
    have g0 : (zs.map V.str)[0]? = some (.str (zs[0]'(by omega))) := by rw [List.getElem?_map, List.getElem?_eq_getElem (by omega)]; rfl
    have g1 : (zs.map V.str)[1]? = some (.str (zs[1]'(by omega))) := by rw [List.getElem?_map, List.getElem?_eq_getElem (by omega)]; rfl
    refine ⟨.ref b, rfl, .ref g, rfl, ixT (n := 1) (.of S6.hg) rfl ⟨_, _, rfl, rfl, ⟨by show 1 ≤ sizeLine; decide, fun t0 nt0 => ?_⟩⟩⟩
    have st0 := same_upd (o := .tup [V.int 0]) nt0
    have ht0 : (upd G6 t0 (.tup [V.int 0])) t0 = some (.tup [V.int 0]) := upd_same
    have S7 := S6.same st0
    have tv7 := same_seqT st0 tv6
    have dvs7 := dpAll_same st0 dvs6
    generalize upd G6 t0 (.tup [V.int 0]) = G7 at *
    refine ⟨.ref L, rfl, ixL (n := 0) (.of S7.hL) g0 ⟨.ref L, rfl, ixL (n := 1) (.of S7.hL) g1 ⟨by show 14 ≤ sizeLine; decide, fun lo nlo => ?_⟩⟩⟩
    refine ⟨b, c, .ref lo, rfl, (S7.same (same_upd nlo)).bag, .inl ⟨lo, _, rfl, upd_same, S7.ne nlo, by show 0 < 14; decide, by show 14 ≤ 1000; decide, fun r8 v8 G8 hv8 bt8 B8 => ?_⟩⟩
    have S7' := S7.same (same_upd (o := .lst [V.non, V.str "", V.str "zzzzzzzz", V.int pl, V.int (0 - 1), V.bl true, V.ref t0, V.str "0", V.int 0, V.int 1, V.str "in", V.str (zs[0]'(by omega)), V.str (zs[1]'(by omega)), V.str "out"]) nlo)
    have kk8 : Lk G7 G8 := Lk.trans (Same.lk (same_upd nlo)) (S7'.lk bt8)
    have S8 := S7'.but bt8 B8
    obtain ⟨d8, dv8, sm8, nol8⟩ : ∃ d, Dp K G8 v8 d ∧ Sm 2 d ∧ NoL d := by
      have wk : ∀ w ∈ (["", "zzzzzzzz", "0", "in", "out"] : List Str), PyData.strOk w = true := by decide +kernel
      match r8, hv8 with
      | 0, e => cases Option.some.inj e; exact ⟨_, .non, sm_none, .non⟩
      | 1, e => cases Option.some.inj e; exact ⟨_, .str _, sm_str (wk _ (by simp)), .str _⟩
      | 2, e => cases Option.some.inj e; exact ⟨_, .str _, sm_str (wk _ (by simp)), .str _⟩
      | 3, e => cases Option.some.inj e; exact ⟨_, .int _, sm_int _, .int _⟩
      | 4, e => cases Option.some.inj e; exact ⟨_, .int _, sm_int _, .int _⟩
      | 5, e => cases Option.some.inj e; exact ⟨_, .bl _, sm_bool _, .bl _⟩
      | 6, e => cases Option.some.inj e; exact ⟨.tuple [.int 0], .tup (lk_seqT kk8 (.of ht0)) (.cons (.int _) .nil), (sm_tuple (n := 0) fun d hd => by rw [List.mem_singleton.mp hd]; exact sm_int _).up (by omega), .tup fun d hd => by rw [List.mem_singleton.mp hd]; exact .int _⟩
      | 7, e => cases Option.some.inj e; exact ⟨_, .str _, sm_str (wk _ (by simp)), .str _⟩
      | 8, e => cases Option.some.inj e; exact ⟨_, .int _, sm_int _, .int _⟩
      | 9, e => cases Option.some.inj e; exact ⟨_, .int _, sm_int _, .int _⟩
      | 10, e => cases Option.some.inj e; exact ⟨_, .str _, sm_str (wk _ (by simp)), .str _⟩
      | 11, e => cases Option.some.inj e; exact ⟨_, .str _, sm_str (ok _ (List.getElem_mem _)), .str _⟩
      | 12, e => cases Option.some.inj e; exact ⟨_, .str _, sm_str (ok _ (List.getElem_mem _)), .str _⟩
      | 13, e => cases Option.some.inj e; exact ⟨_, .str _, sm_str (wk _ (by simp)), .str _⟩
      | n + 14, e => simp at e
    have tv8 := lk_seqT kk8 tv7
    have dvs8 := dpAll_lk kk8 nol dvs7
    -- something bent
    have ecut : ((m : Int) + 1) = ((m + 1 : Nat) : Int) := by omega
    have v5 : vs.length ≤ 5 := by omega
    refine ⟨.ref b, rfl, .ref t, rfl, .int (m : Nat), rfl, m, rfl, slice_ok tv8 fun Ga ra sa ha => ?_⟩
    rw [cut_head vs (by omega)] at ha
    refine ⟨v8, rfl, by show 1 ≤ sizeLine; decide, fun ta nta => ?_⟩
    have sa1 := sa.trans (same_upd (o := .tup [v8]) nta)
    have hta : (upd Ga ta (.tup [v8])) ta = some (.tup [v8]) := upd_same
    have ha1 := same_seqT (same_upd (o := .tup [v8]) nta) ha
    generalize upd Ga ta (.tup [v8]) = Gb at *
    refine cat_ok ha1 (.of hta) (by simp; omega) fun Gc rc sc hc => ?_
    have s8c := sa1.trans sc
    refine ⟨.ref t, rfl, .int (m : Nat), rfl, _, _, rfl, rfl, (m : Int) + 1, rfl, ?_⟩
    unfold tNoPart
    refine slice_ok (same_seqT s8c tv8) fun Gd rd' sd hd' => ?_
    rw [ecut, cut_tail vs (by omega)] at hd'
    refine cat_ok (same_seqT sd hc) hd' (by simp; omega) fun Ge re se he => ?_
    have s8e := (s8c.trans sd).trans se
    refine ⟨.ref t, rfl, v8, rfl, by show 1 ≤ sizeLine; decide, fun tb' ntb => ?_⟩
    have sf := same_upd (o := .tup [v8]) ntb
    have htb : (upd Ge tb' (.tup [v8])) tb' = some (.tup [v8]) := upd_same
    generalize upd Ge tb' (.tup [v8]) = Gf at *
    have s8f := s8e.trans sf
    refine cat_ok (same_seqT s8f tv8) (.of htb) (by simp; omega) fun Gg rg sg hg' => ?_
    have s8g := s8f.trans sg
    refine ⟨.ref t, rfl, .int (m : Nat), rfl, m, rfl, slice_ok (same_seqT s8g tv8) fun Gh rh sh hh => ?_⟩
    rw [cut_head vs (by omega)] at hh
    have s8h := s8g.trans sh
    refine ⟨.ref t, rfl, .int (m : Nat), rfl, _, _, rfl, rfl, (m : Int) + 1, rfl, ?_⟩
    refine slice_ok (same_seqT s8h tv8) fun Gi ri si hi' => ?_
    rw [ecut, cut_tail vs (by omega)] at hi'
    have s8i := s8h.trans si
    refine cat_ok (same_seqT si hh) hi' (by simp; omega) fun Gj rj sj hj => ?_
    have s8j := s8i.trans sj
    refine ⟨by show 0 ≤ sizeLine; decide, fun te nte => ?_⟩
    have sk := same_upd (o := .tup ([] : List V)) nte
    have hte : (upd Gj te (.tup ([] : List V))) te = some (.tup []) := upd_same
    generalize upd Gj te (.tup ([] : List V)) = Gk at *
    have s8k := s8j.trans sk
    have gv0 : vs[0]? = some (vs[0]'(by omega)) := List.getElem?_eq_getElem (by omega)
    refine ⟨.ref t, rfl, ixT (n := 0) (same_seqT s8k tv8) gv0 ⟨.ref t, rfl, by show 1 ≤ sizeLine; decide, fun tl ntl => ?_⟩⟩
    have sl := same_upd (o := .tup [V.ref t]) ntl
    have htl : (upd Gk tl (.tup [V.ref t])) tl = some (.tup [V.ref t]) := upd_same
    generalize upd Gk tl (.tup [V.ref t]) = Gl at *
    have s8l := s8k.trans sl
    refine ⟨by show 8 ≤ sizeLine; decide, fun lb nlb => ?_⟩
    have S8l := S8.same s8l
    have sm' := same_upd (o := .lst [V.ref re, V.ref rg, V.ref rj, V.ref te, V.non, V.int 3, vs[0]'(by omega), V.ref tl]) nlb
    refine ⟨b, c, .ref lb, rfl, (S8l.same sm').bag, .inl ⟨lb, _, rfl, upd_same, S8l.ne nlb, by show 0 < 8; decide, by show 8 ≤ 1000; decide, fun r9 v9 G9 hv9 bt9 B9 => ?_⟩⟩
    have S9 := (S8l.same sm').but bt9 B9
    have kk9 : Lk Gl G9 := Lk.trans (Same.lk sm') ((S8l.same sm').lk bt9)
    have nolL : ∀ {ds : List PyData}, (∀ d ∈ ds, d ∈ items ∨ d = d8) → ∀ d ∈ ds, NoL d := fun h d hd => (h d hd).elim (nol d) fun e => e ▸ nol8
    have smL : ∀ {ds : List PyData}, (∀ d ∈ ds, d ∈ items ∨ d = d8) → ∀ d ∈ ds, Sm 2 d := fun h d hd => (h d hd).elim (fun h => (sm d h).up (by omega)) fun e => e ▸ sm8
    obtain ⟨d9, dv9, tup9⟩ : ∃ d, Dp K G9 v9 d ∧ ∀ ys, d = .tuple ys → ys.length ≤ 500 ∧ ∀ y ∈ ys, Sm 3 y ∧ NoL y := by
      have mk : ∀ {q : Addr} {us : List V} {ds : List PyData} {Gx : Hp}, SqT K Gx q us → DpAll K Gx us ds → (∀ d ∈ ds, d ∈ items ∨ d = d8) → Same Gx Gl → ds.length ≤ 500 → ∃ d, Dp K G9 (.ref q) d ∧ ∀ ys, d = .tuple ys → ys.length ≤ 500 ∧ ∀ y ∈ ys, Sm 3 y ∧ NoL y := fun hq hd hin s h5 =>
        ⟨_, dp_lk kk9 (.tup (nolL hin)) (.tup (same_seqT s hq) (dpAll_same s hd)), fun ys e => by cases e; exact ⟨h5, fun y hy => ⟨(smL hin y hy).up (by omega), nolL hin y hy⟩⟩⟩
      have s_e : Same Ge Gl := ((((sf.trans sg).trans sh).trans si).trans sj).trans (sk.trans sl)
      have s_g : Same Gg Gl := ((sh.trans si).trans sj).trans (sk.trans sl)
      have s_j : Same Gj Gl := sk.trans sl
      match r9, hv9 with
      | 0, e =>
        cases Option.some.inj e
        exact mk he (dpAll_app2 (dpAll_app2 (dpAll_take m (dpAll_same s8e dvs8)) (.cons (dp_same s8e dv8) .nil)) (dpAll_drop (m + 1) (dpAll_same s8e dvs8))) (fun d hd => by
          rcases List.mem_append.mp hd with hd | hd
          · rcases List.mem_append.mp hd with hd | hd
            · exact .inl (List.mem_of_mem_take hd)
            · exact .inr (List.mem_singleton.mp hd)
          · exact .inl (List.mem_of_mem_drop hd)) s_e (by simp; omega)
      | 1, e =>
        cases Option.some.inj e
        exact mk hg' (dpAll_app2 (dpAll_same s8g dvs8) (.cons (dp_same s8g dv8) .nil)) (fun d hd => (List.mem_append.mp hd).elim .inl fun h => .inr (List.mem_singleton.mp h)) s_g (by simp; omega)
      | 2, e =>
        cases Option.some.inj e
        exact mk hj (dpAll_app2 (dpAll_take m (dpAll_same s8j dvs8)) (dpAll_drop (m + 1) (dpAll_same s8j dvs8))) (fun d hd => .inl ((List.mem_append.mp hd).elim List.mem_of_mem_take List.mem_of_mem_drop)) s_j (by simp; omega)
      | 3, e =>
        cases Option.some.inj e
        exact mk (.of hte) .nil (fun d hd => nomatch hd) sl (Nat.zero_le _)
      | 4, e => cases Option.some.inj e; exact ⟨_, .non, fun ys e => nomatch e⟩
      | 5, e => cases Option.some.inj e; exact ⟨_, .int _, fun ys e => nomatch e⟩
      | 6, e =>
        cases Option.some.inj e
        obtain ⟨z0, gz, dz⟩ := dpAll_get dvs8 (i := 0) (d := items[0]'(by omega)) (List.getElem?_eq_getElem (by omega))
        rw [gv0] at gz
        obtain rfl := Option.some.inj gz
        have hm0 : items[0]'(by omega) ∈ items := List.getElem_mem _
        refine ⟨_, dp_lk kk9 (nol _ hm0) (dp_same s8l dz), fun ys e => ?_⟩
        rcases deeds_sc items hmem _ hm0 with ⟨z, h⟩ | ⟨z, h⟩ <;> rw [h] at e <;> cases e
      | 7, e =>
        cases Option.some.inj e
        exact ⟨.tuple [.tuple items], dp_lk kk9 (.tup fun d hd => by rw [List.mem_singleton.mp hd]; exact .tup nol) (.tup (.of htl) (.cons (.tup (same_seqT s8l tv8) (dpAll_same s8l dvs8)) .nil)), fun ys e => by cases e; exact ⟨by show 1 ≤ 500; omega, fun y hy => by rw [List.mem_singleton.mp hy]; exact ⟨(sm_tuple sm).up (by omega), .tup nol⟩⟩⟩
      | n + 8, e => simp at e
    have ty9 := ty_data dv9
    obtain ⟨b9, e9⟩ : ∃ b, kitB (tyD d9) "tuple" = some b := by cases d9 <;> exact ⟨_, rfl⟩
    refine ⟨v9, rfl, v9, .ty "tuple", _, _, b9, rfl, .ty "tuple", ty9, kit_ty e9, b9, rfl, ?_⟩
    cases b9 with
    | false =>
      have ej : judgeB zs pl d9 = false := by
        cases dv9 with
        | tup _ _ => exact absurd (show kitB "tuple" "tuple" = some false from e9) (by decide +kernel)
        | _ => rfl
      refine iteF ⟨by show 0 ≤ sizeLine; decide, fun lk nlk => ?_⟩
      have s1' := same_upd (o := .lst ([] : List V)) nlk
      have hlk : (upd G9 lk (.lst ([] : List V))) lk = some (.lst []) := upd_same
      generalize upd G9 lk (.lst ([] : List V)) = Ga at *
      refine ⟨.ref lk, rfl, by show 0 ≤ sizeLine; decide, fun e ne => ⟨.list [], .list [], .lst (.of (same_upd (o := .lst ([] : List V)) ne _ _ hlk)) .nil, .lst (.of upd_same) .nil, by decide, by decide, false, rfl, iteF ?_⟩⟩
      have s2' := s1'.trans (same_upd (o := .lst ([] : List V)) ne)
      generalize upd Ga e (.lst ([] : List V)) = Gb at *
      refine ⟨.ref x, rfl, v9, rfl, x, v9, d9, zs, pl, rfl, (S9.same s2').hx, dp_same s2' dv9, fun ds h => ⟨(tup9 ds h).1, fun y hy => ((tup9 ds h).2 y hy).1.shaped (by omega)⟩, fun Gc sc => ⟨.bl false, rfl, ?_⟩⟩
      rw [ej]
      exact ⟨.bl false, .bl false, .bool false, rfl, .bl _, .bl _, .bl _, fun Gd sd => ⟨true, rfl, iteF ⟨_, _, _, _, _, _, _, rfl, ((S9.same s2').same sc).same sd⟩⟩⟩
    | true =>
      obtain ⟨t9, us, ys, rfl, rfl, tv9, dus⟩ : ∃ t9 us ys, v9 = .ref t9 ∧ d9 = .tuple ys ∧ SqT K G9 t9 us ∧ DpAll K G9 us ys := by
        cases dv9 with
        | non => exact absurd (show kitB "NoneType" "tuple" = some true from e9) (by decide +kernel)
        | bl b => exact absurd (show kitB "bool" "tuple" = some true from e9) (by decide +kernel)
        | int i => exact absurd (show kitB "int" "tuple" = some true from e9) (by decide +kernel)
        | str z => exact absurd (show kitB "str" "tuple" = some true from e9) (by decide +kernel)
        | lst _ _ => exact absurd (show kitB "list" "tuple" = some true from e9) (by decide +kernel)
        | tup a b => exact ⟨_, _, _, rfl, rfl, a, b⟩
      obtain ⟨y5h, ysm⟩ := tup9 ys rfl
      have lus := dpAll_len dus
      refine iteT ⟨.ref t9, rfl, t9, rfl, ⟨_, tv9⟩, fun lk nlk => ?_⟩
      refine lc_data (K := K) (walk_tup (K := K) (a := t9) (xs := us)) y_at (fun k => ys[k]?.map prK) (fun k hk d e => by obtain ⟨y, hy, rfl⟩ := Option.map_eq_some_iff.mp e; exact nol_prK (ysm y (List.mem_of_getElem? hy)).2) (by omega) nlk (fun Ga sa => same_seqT sa tv9) ?_ ?_
      · intro k z Ga Kc Kn hk sa hz kc _
        have hky : k < ys.length := by omega
        obtain ⟨z', gz, dz⟩ := dpAll_get dus (i := k) (d := ys[k]) (List.getElem?_eq_getElem hky)
        rw [hz] at gz
        obtain rfl := Option.some.inj gz
        have dza := dp_same sa dz
        exact ⟨rfl, yes (iteT ⟨z, rfl, z, .ty "bool", _, _, isBoolD ys[k], rfl, .ty "bool", ty_data dza, kit_ty (kit_bool _ (.inr trivial) dza), z, rfl, by show 2 ≤ sizeLine; decide, fun t nt => kc _ _ (prK ys[k]) (by rw [List.getElem?_eq_getElem hky]; rfl) (same_upd nt) (.tup (.of upd_same) (.cons (.bl _) (.cons (dp_same (same_upd nt) dza) .nil)))⟩)⟩
      intro Ga acck sa hlk hacck
      rw [lus, fm_map] at hacck
      have S9a := S9.same sa
      have ksm : Sm 5 (.list (ys.map prK)) := sm_list fun d hd => by
        obtain ⟨y, hy, rfl⟩ := List.mem_map.mp hd
        exact sm_prK (ysm y hy).1
      refine ⟨.ref lk, rfl, by show 0 ≤ sizeLine; decide, fun e ne => ?_⟩
      have se := same_upd (o := .lst ([] : List V)) ne
      have he0 : (upd Ga e (.lst ([] : List V))) e = some (.lst []) := upd_same
      generalize upd Ga e (.lst ([] : List V)) = Gb at *
      have s9b := sa.trans se
      have S9b := S9a.same se
      have dk := Dp.lst (.of (se _ _ hlk)) (dpAll_same se hacck)
      refine ⟨.list (ys.map prK), .list [], dk, .lst (.of he0) .nil, ksm.shaped (by omega), by decide, !ys.isEmpty, ?_, ?_⟩
      · cases ys <;> rfl
      by_cases hys : ys = []
      · subst hys
        refine iteF ⟨.ref x, rfl, .ref t9, rfl, x, .ref t9, .tuple [], zs, pl, rfl, S9b.hx, dp_same s9b (.tup tv9 dus), fun ds h => ⟨(tup9 ds h).1, fun y hy => ((tup9 ds h).2 y hy).1.shaped (by omega)⟩, fun Gc sc => ⟨.bl false, rfl, ?_⟩⟩
        exact ⟨.bl false, .bl false, .bool false, rfl, .bl _, .bl _, .bl _, fun Gd sd => ⟨true, rfl, iteF ⟨_, _, _, _, _, _, _, rfl, (S9b.same sc).same sd⟩⟩⟩
      rw [show (!ys.isEmpty) = true by cases ys with | nil => exact absurd rfl hys | cons a b => rfl]
      refine iteT ⟨.ref lk, rfl, .ref g, rfl, g, n, zs, pl, tb, wd, rfl, .of S9b.hg, .of S9b.hn, zhi, phi, fun Gc lx U => ?_⟩
      obtain ⟨nlx, sbc, acx, hlx, dacx⟩ := U
      have S9c := S9b.same sbc
      have s9c := s9b.trans sbc
      have lax : acx.length = (deedsL zs pl).length := by rw [dpAll_len dacx, List.length_map]
      refine ⟨lx, rfl, ⟨_, .of hlx⟩, fun lz nlz => ?_⟩
      refine lc_it (walk_list (K := K) (a := lx) (xs := acx)) (fun i H2 => Same Gc H2 ∧ ∃ rs : List Addr, H2 lz = some (.lst (rs.map V.ref)) ∧ rs.length = i ∧ ∀ j r, rs[j]? = some r → r ≠ lz ∧ ∃ (us2 : List V) (one : Items), (deedsL zs pl)[j]? = some one ∧ H2 r = some (.lst us2) ∧ DpAll K H2 us2 (one.map prF)) ⟨same_upd nlz, [], upd_same, rfl, fun j r e => absurd (List.mem_of_getElem? e) List.not_mem_nil⟩ (fun i H2 _ h => .of (h.1 _ _ hlx)) ?_ ?_
      · rintro i2 z H2 H3 hi2 ⟨s2, rs, hlz, lrs, hrs⟩ ⟨rfl, hz⟩
        have hid : i2 < (deedsL zs pl).length := by omega
        obtain ⟨z', gz, dz⟩ := dpAll_get dacx (i := i2) (d := .tuple (deedsL zs pl)[i2]) (by rw [List.getElem?_map, List.getElem?_eq_getElem hid]; rfl)
        rw [hz] at gz
        obtain rfl := Option.some.inj gz
        have gone : (deedsL zs pl)[i2]? = some (deedsL zs pl)[i2] := List.getElem?_eq_getElem hid
        have mone := List.getElem_mem hid
        generalize (deedsL zs pl)[i2] = one at *
        have nolO : ∀ d ∈ one, NoL d := fun d hd => sc_nol (deeds_sc one mone d hd)
        obtain ⟨to, uo, rfl, tvo, duo⟩ : ∃ to uo, z = .ref to ∧ SqT K H3 to uo ∧ DpAll K H3 uo one := by
          cases dp_same s2 dz with
          | tup a b => exact ⟨_, _, rfl, a, b⟩
        have luo := dpAll_len duo
        have l5o := (deeds_short one mone).2
        refine ⟨rfl, yes (iteT ⟨.ref to, rfl, to, rfl, ⟨_, tvo⟩, fun lq nlq => ?_⟩)⟩
        refine lc_data (K := K) (walk_tup (K := K) (a := to) (xs := uo)) y_at (fun k => one[k]?.map prF) (fun k hk d e => by obtain ⟨y, hy, rfl⟩ := Option.map_eq_some_iff.mp e; exact nol_prF (nolO y (List.mem_of_getElem? hy))) (by omega) nlq (fun Gx sx => same_seqT sx tvo) ?_ ?_
        · intro k z2 Gx Kc Kn hk sx hz2 kc _
          have hko : k < one.length := by omega
          obtain ⟨z3, gz3, dz3⟩ := dpAll_get duo (i := k) (d := one[k]) (List.getElem?_eq_getElem hko)
          rw [hz2] at gz3
          obtain rfl := Option.some.inj gz3
          exact ⟨rfl, yes (iteT ⟨z2, rfl, by show 2 ≤ sizeLine; decide, fun t nt => kc _ _ (prF one[k]) (by rw [List.getElem?_eq_getElem hko]; rfl) (same_upd nt) (.tup (.of upd_same) (.cons (.bl _) (.cons (dp_same ((sx.trans (same_upd nt))) dz3) .nil)))⟩)⟩
        · intro Gx accq sx hlq haccq
          rw [luo, fm_map] at haccq
          have nqz : lq ≠ lz := fun e => by rw [e, hlz] at nlq; cases nlq
          have hlzx := sx _ _ hlz
          refine ⟨_, hlzx, ?_, fun a o e => ?_, rs ++ [lq], by rw [upd_same, List.map_append]; rfl, by rw [List.length_append, lrs]; rfl, fun j r hj => ?_⟩
          · rw [List.length_map, lrs]
            exact small500 (by omega)
          · rw [upd_ne (ne_of_none e nlz)]
            exact sx _ _ (s2 _ _ e)
          · have nolM : ∀ {o : Items}, o ∈ deedsL zs pl → ∀ d ∈ o.map prF, NoL d := fun ho d hd => by
              obtain ⟨y, hy, rfl⟩ := List.mem_map.mp hd
              exact nol_prF (sc_nol (deeds_sc _ ho y hy))
            rcases Nat.lt_or_ge j rs.length with h | h
            · rw [List.getElem?_append_left h] at hj
              obtain ⟨h1, us2, one2, h2, h3, h4⟩ := hrs j r hj
              refine ⟨h1, us2, one2, h2, by rw [upd_ne h1]; exact sx _ _ h3, dpAll_but (.lst hlzx) But.upd (nolM (List.mem_of_getElem? h2)) (dpAll_same sx h4)⟩
            · have ej : j = i2 := by
                have := (List.getElem?_eq_some_iff.mp hj).1
                rw [List.length_append] at this
                simp at this
                omega
              subst ej
              rw [List.getElem?_append_right h, lrs, Nat.sub_self] at hj
              have er : lq = r := Option.some.inj hj
              subst er
              exact ⟨nqz, accq, one, gone, by rw [upd_ne nqz]; exact hlq, dpAll_but (.lst hlzx) But.upd (nolM mone) haccq⟩
      · rintro H2 ⟨s2, rs, hlz, lrs, hrs⟩
        have s9e := s9c.trans s2
        have S9e := S9c.same s2
        have lrs' : rs.length = (deedsL zs pl).length := by rw [lrs, lax]
        have hall : DpAll K H2 (rs.map V.ref) ((deedsL zs pl).map fun one => PyData.list (one.map prF)) := by
          refine dpAll_at (by rw [List.length_map, List.length_map, lrs']) fun j y d hy hd => ?_
          rw [List.getElem?_map] at hy hd
          obtain ⟨r, hr, rfl⟩ := Option.map_eq_some_iff.mp hy
          obtain ⟨o2, ho2, rfl⟩ := Option.map_eq_some_iff.mp hd
          obtain ⟨_, us2, o1, ho1, h3, h4⟩ := hrs j r hr
          rw [ho1] at ho2
          obtain rfl := Option.some.inj ho2
          exact .lst (.of h3) h4
        have bsm : Sm 5 (.list ((deedsL zs pl).map fun one => PyData.list (one.map prF))) := sm_list fun d hd => by
          obtain ⟨o, ho, rfl⟩ := List.mem_map.mp hd
          refine (sm_list (n := 2) fun d hd => ?_).up (by omega)
          obtain ⟨y, hy, rfl⟩ := List.mem_map.mp hd
          exact sm_prF (deeds_sm ok o ho y hy)
        refine ⟨.list (ys.map prK), _, dp_same (sbc.trans s2) dk, .lst (.of hlz) hall, ksm.shaped (by omega), bsm.shaped (by omega), ?_⟩
        rw [kinds_judge]
        refine ⟨.ref x, rfl, .ref t9, rfl, x, .ref t9, .tuple ys, zs, pl, rfl, S9e.hx, dp_same s9e (.tup tv9 dus), fun ds h => ⟨(tup9 ds h).1, fun y hy => ((tup9 ds h).2 y hy).1.shaped (by omega)⟩, fun Gf sf => ⟨.bl (judgeB zs pl (.tuple ys)), rfl, ?_⟩⟩
        exact ⟨_, _, .bool (judgeB zs pl (.tuple ys)), rfl, .bl _, .bl _, .bl _, fun Gg sg => ⟨true, rfl, iteF ⟨_, _, _, _, _, _, _, rfl, (S9e.same sf).same sg⟩⟩⟩
end
end KT

namespace KT
open PySem PySem.Spec PyProof.Rows L2
/-- the written table, entry by entry -/
def formsEs (P : Params) (x0 x1 x2 x3 x4 x5 x6 x7 x8 : Tok) (p0 p1 p2 p3 p4 p5 p6 p7 p8 : Addr) : Array DictEntry :=
  #[⟨PyData.keyHash P "make", .str "make" x0, .ref p0⟩, ⟨PyData.keyHash P "restore", .str "restore" x1, .ref p1⟩, ⟨PyData.keyHash P "drop", .str "drop" x2, .ref p2⟩, ⟨PyData.keyHash P "pick", .str "pick" x3, .ref p3⟩,
    ⟨PyData.keyHash P "merge", .str "merge" x4, .ref p4⟩, ⟨PyData.keyHash P "squash", .str "squash" x5, .ref p5⟩, ⟨PyData.keyHash P "pass", .str "pass" x6, .ref p6⟩, ⟨PyData.keyHash P "hear", .str "hear" x7, .ref p7⟩, ⟨PyData.keyHash P "mean", .str "mean" x8, .ref p8⟩]
theorem forms_of {w : World} {K : PySem.W.Frag} {aF : Addr} {x0 x1 x2 x3 x4 x5 x6 x7 x8 : Tok} {p0 p1 p2 p3 p4 p5 p6 p7 p8 : Addr} {nF : Nat}
    (lF : K.lookup aF = some ⟨.type "dict", none, .dict (formsEs w.params x0 x1 x2 x3 x4 x5 x6 x7 x8 p0 p1 p2 p3 p4 p5 p6 p7 p8) nF, #[]⟩) (low : (aF == sysModules) = false)
    (t0 : ∀ H, SqT K H p0 ((["branch", "place"] : List Str).map V.str)) (t1 : ∀ H, SqT K H p1 ((["branch", "place"] : List Str).map V.str)) (t2 : ∀ H, SqT K H p2 ((["branch", "place"] : List Str).map V.str))
    (t3 : ∀ H, SqT K H p3 ((["branch", "other", "place", "place"] : List Str).map V.str)) (t4 : ∀ H, SqT K H p4 ((["branch", "other"] : List Str).map V.str)) (t5 : ∀ H, SqT K H p5 ((["branch", "other"] : List Str).map V.str))
    (t6 : ∀ H, SqT K H p6 ((["branch"] : List Str).map V.str)) (t7 : ∀ H, SqT K H p7 ((["branch", "other"] : List Str).map V.str)) (t8 : ∀ H, SqT K H p8 ((["branch", "meaning"] : List Str).map V.str)) : Forms K w aF := by
  have lits : PySem.W.KeysLit w.params (formsEs w.params x0 x1 x2 x3 x4 x5 x6 x7 x8 p0 p1 p2 p3 p4 p5 p6 p7 p8).toList :=
    ⟨⟨_, _, rfl, rfl⟩, ⟨_, _, rfl, rfl⟩, ⟨_, _, rfl, rfl⟩, ⟨_, _, rfl, rfl⟩, ⟨_, _, rfl, rfl⟩, ⟨_, _, rfl, rfl⟩, ⟨_, _, rfl, rfl⟩, ⟨_, _, rfl, rfl⟩, ⟨_, _, rfl, rfl⟩, trivial⟩
  have at_ : ∀ z, PySem.W.nsIn K aF z = (match (formsEs w.params x0 x1 x2 x3 x4 x5 x6 x7 x8 p0 p1 p2 p3 p4 p5 p6 p7 p8).toList.find? (fun e => e.key.isStr z) with
      | some e => some (some e.val)
      | none => if (formsEs w.params x0 x1 x2 x3 x4 x5 x6 x7 x8 p0 p1 p2 p3 p4 p5 p6 p7 p8).toList.any (·.refKey) then none else some none) := fun z => by
    unfold PySem.W.nsIn
    rw [lF]
    rfl
  have has : ∀ z p, PySem.W.nsIn K aF z = some (some (.ref p)) → ∀ ks : List Str, (∀ H, SqT K H p (ks.map V.str)) → WKD.Has K w aF z true ∧ ∃ p, KDct K w aF z (.ref p) ∧ ∀ H, SqT K H p (ks.map V.str) := fun z p e ks t =>
    ⟨⟨_, _, _, lF, lits, low, e, rfl⟩, p, ⟨_, _, _, lF, lits, e, rfl⟩, t⟩
  constructor
  · intro z h
    refine ⟨_, _, none, lF, lits, low, ?_, rfl⟩
    unfold kindsOf at h
    by_cases c1 : z = "make" ∨ z = "restore" ∨ z = "drop"
    · rw [if_pos c1] at h; cases h
    rw [if_neg c1] at h
    by_cases c2 : z = "pick"
    · rw [if_pos c2] at h; cases h
    rw [if_neg c2] at h
    by_cases c3 : z = "merge" ∨ z = "squash" ∨ z = "hear"
    · rw [if_pos c3] at h; cases h
    rw [if_neg c3] at h
    by_cases c4 : z = "pass"
    · rw [if_pos c4] at h; cases h
    rw [if_neg c4] at h
    by_cases c5 : z = "mean"
    · rw [if_pos c5] at h; cases h
    have ne : ∀ y : Str, z ≠ y → ((y == z) = false) := fun y n => beq_eq_false_iff_ne.mpr fun e => n e.symm
    have f : (formsEs w.params x0 x1 x2 x3 x4 x5 x6 x7 x8 p0 p1 p2 p3 p4 p5 p6 p7 p8).toList.find? (fun e => e.key.isStr z) = none := by
      simp only [not_or] at c1 c3
      simp only [formsEs, List.find?_cons, List.find?_nil, Value.isStr, ne _ c1.1, ne _ c1.2.1, ne _ c1.2.2, ne _ c2, ne _ c3.1, ne _ c3.2.1, ne _ c3.2.2, ne _ c4, ne _ c5]
    rw [at_, f]
    rfl
  · intro z ks h
    unfold kindsOf at h
    by_cases c1 : z = "make" ∨ z = "restore" ∨ z = "drop"
    · rw [if_pos c1] at h
      obtain rfl := Option.some.inj h
      rcases c1 with rfl | rfl | rfl
      · exact has _ p0 (by rw [at_]; rfl) _ t0
      · exact has _ p1 (by rw [at_]; rfl) _ t1
      · exact has _ p2 (by rw [at_]; rfl) _ t2
    rw [if_neg c1] at h
    by_cases c2 : z = "pick"
    · rw [if_pos c2] at h
      obtain rfl := Option.some.inj h
      subst c2
      exact has _ p3 (by rw [at_]; rfl) _ t3
    rw [if_neg c2] at h
    by_cases c3 : z = "merge" ∨ z = "squash" ∨ z = "hear"
    · rw [if_pos c3] at h
      obtain rfl := Option.some.inj h
      rcases c3 with rfl | rfl | rfl
      · exact has _ p4 (by rw [at_]; rfl) _ t4
      · exact has _ p5 (by rw [at_]; rfl) _ t5
      · exact has _ p7 (by rw [at_]; rfl) _ t7
    rw [if_neg c3] at h
    by_cases c4 : z = "pass"
    · rw [if_pos c4] at h
      obtain rfl := Option.some.inj h
      subst c4
      exact has _ p6 (by rw [at_]; rfl) _ t6
    rw [if_neg c4] at h
    by_cases c5 : z = "mean"
    · rw [if_pos c5] at h
      obtain rfl := Option.some.inj h
      subst c5
      exact has _ p8 (by rw [at_]; rfl) _ t8
    · rw [if_neg c5] at h
      cases h
end KT

namespace KT
open PySem PySem.Spec PyProof.Rows L2
theorem kb_deed {K : PySem.W.Frag} {f : Addr} {fd : FuncData} (F : Fun K "is_deed" "is_deed" sDeed f fd) : KBn K fd ["shape", "value"] 0 (["value", "shape"] : List Str) swG swG := by
  obtain ⟨oc, od, kV, doc, pm, an, cdv, ct, osl, rfl, lk, hcd⟩ := F.ex
  refine ⟨fun s us ws X l1 l2 => ?_, fun r1 r2 => r1.append r2.reverse⟩
  match us, ws, l1, l2 with
  | [], [a, b], _, _ => exact .of_eq rfl
theorem all_mk {l : PySem.W.OpenLaw} {w : World} {K : PySem.W.Frag} {h : Heap} {mg : Str → Option Value} {fa C aB f_opened f_pull f_any f_names f_word f_table f_ground f_shape f_num f_isn f_chk f_ist f_like f_idx f_fits f_deed f_deeds f_law f_init f_gbranches p_branches f_gplaces p_places aM aF p0 p1 p2 p3 p4 p5 p6 p7 p8 : Addr} (X : K.In h) (G : h.Ns mainGlobals mg) (hfa : mg "law" = some (.ref fa))
    {od_opened an_opened od_pull an_pull od_any an_any od_names an_names od_word an_word od_table an_table od_ground an_ground od_shape an_shape od_num an_num od_isn an_isn od_chk an_chk od_ist an_ist od_like an_like od_idx an_idx od_fits an_fits od_deed an_deed od_deeds an_deeds od_law an_law od_init an_init od_gbranches an_gbranches od_gplaces an_gplaces odM odp0 odp1 odp2 odp3 odp4 odp5 odp6 odp7 odp8 odB : Option Addr} {sl_opened sl_pull sl_any sl_names sl_word sl_table sl_ground sl_shape sl_num sl_isn sl_chk sl_ist sl_like sl_idx sl_fits sl_deed sl_deeds sl_law sl_init sl_gbranches sl_gplaces slM slp0 slp1 slp2 slp3 slp4 slp5 slp6 slp7 slp8 slB : Array (Option Value)} {oc_opened kV_opened dc_opened pm_opened cd_opened ct_opened oc_pull kV_pull dc_pull pm_pull cd_pull ct_pull oc_any kV_any dc_any pm_any cd_any ct_any oc_names kV_names dc_names pm_names cd_names ct_names oc_word kV_word dc_word pm_word cd_word ct_word oc_table kV_table dc_table pm_table cd_table ct_table oc_ground kV_ground dc_ground pm_ground cd_ground ct_ground oc_shape kV_shape dc_shape pm_shape cd_shape ct_shape oc_num kV_num dc_num pm_num cd_num ct_num oc_isn kV_isn dc_isn pm_isn cd_isn ct_isn oc_chk kV_chk dc_chk pm_chk cd_chk ct_chk oc_ist kV_ist dc_ist pm_ist cd_ist ct_ist oc_like kV_like dc_like pm_like cd_like ct_like oc_idx kV_idx dc_idx pm_idx cd_idx ct_idx oc_fits kV_fits dc_fits pm_fits cd_fits ct_fits oc_deed kV_deed dc_deed pm_deed cd_deed ct_deed oc_deeds kV_deeds dc_deeds pm_deeds cd_deeds ct_deeds oc_law kV_law dc_law pm_law cd_law ct_law oc_init kV_init dc_init pm_init cd_init ct_init oc_gbranches kV_gbranches dc_gbranches pm_gbranches cd_gbranches ct_gbranches oc_gplaces kV_gplaces dc_gplaces pm_gplaces cd_gplaces ct_gplaces : Value} {rs_gbranches rs_gplaces : List Value} {u0 u1 u2 u3 u4 v0 v1 x0 x1 x2 x3 x4 x5 x6 x7 x8 k0_0 k0_1 k1_0 k1_1 k2_0 k2_1 k3_0 k3_1 k3_2 k3_3 k4_0 k4_1 k5_0 k5_1 k6_0 k7_0 k7_1 k8_0 k8_1 : Tok} {nB nM nF np0 np1 np2 np3 np4 np5 np6 np7 np8 : Nat}
    (a_opened : PySem.W.nsIn K mainGlobals "_law_opened" = some (some (.ref f_opened))) (l_opened : K.lookup f_opened = some ⟨oc_opened, od_opened, .func (PySem.W.fnOf "_law_opened" "_law_opened" (defArgs sOpened) (defBody sOpened) (defScope sOpened) .none kV_opened dc_opened pm_opened an_opened cd_opened ct_opened), sl_opened⟩) (c_opened : PySem.W.codeIn K cd_opened "_law_opened" = true) (k_opened : PySem.W.keepIn K (.ref f_opened) = true)
    (a_pull : PySem.W.nsIn K mainGlobals "_law_pull" = some (some (.ref f_pull))) (l_pull : K.lookup f_pull = some ⟨oc_pull, od_pull, .func (PySem.W.fnOf "_law_pull" "_law_pull" (defArgs sPull) (defBody sPull) (defScope sPull) .none kV_pull dc_pull pm_pull an_pull cd_pull ct_pull), sl_pull⟩) (c_pull : PySem.W.codeIn K cd_pull "_law_pull" = true) (k_pull : PySem.W.keepIn K (.ref f_pull) = true)
    (a_any : PySem.W.nsIn K mainGlobals "_law_any" = some (some (.ref f_any))) (l_any : K.lookup f_any = some ⟨oc_any, od_any, .func (PySem.W.fnOf "_law_any" "_law_any" (defArgs sAny) (defBody sAny) (defScope sAny) .none kV_any dc_any pm_any an_any cd_any ct_any), sl_any⟩) (c_any : PySem.W.codeIn K cd_any "_law_any" = true) (k_any : PySem.W.keepIn K (.ref f_any) = true)
    (a_names : PySem.W.nsIn K mainGlobals "_law_names" = some (some (.ref f_names))) (l_names : K.lookup f_names = some ⟨oc_names, od_names, .func (PySem.W.fnOf "_law_names" "_law_names" (defArgs sNames) (defBody sNames) (defScope sNames) .none kV_names dc_names pm_names an_names cd_names ct_names), sl_names⟩) (c_names : PySem.W.codeIn K cd_names "_law_names" = true) (k_names : PySem.W.keepIn K (.ref f_names) = true)
    (a_word : PySem.W.nsIn K mainGlobals "_law_bases_word" = some (some (.ref f_word))) (l_word : K.lookup f_word = some ⟨oc_word, od_word, .func (PySem.W.fnOf "_law_bases_word" "_law_bases_word" (defArgs sWord) (defBody sWord) (defScope sWord) .none kV_word dc_word pm_word an_word cd_word ct_word), sl_word⟩) (c_word : PySem.W.codeIn K cd_word "_law_bases_word" = true) (k_word : PySem.W.keepIn K (.ref f_word) = true)
    (a_table : PySem.W.nsIn K mainGlobals "_law_table" = some (some (.ref f_table))) (l_table : K.lookup f_table = some ⟨oc_table, od_table, .func (PySem.W.fnOf "_law_table" "_law_table" (defArgs sTable) (defBody sTable) (defScope sTable) .none kV_table dc_table pm_table an_table cd_table ct_table), sl_table⟩) (c_table : PySem.W.codeIn K cd_table "_law_table" = true) (k_table : PySem.W.keepIn K (.ref f_table) = true)
    (a_ground : PySem.W.nsIn K mainGlobals "_law_ground" = some (some (.ref f_ground))) (l_ground : K.lookup f_ground = some ⟨oc_ground, od_ground, .func (PySem.W.fnOf "_law_ground" "_law_ground" (defArgs sGround) (defBody sGround) (defScope sGround) .none kV_ground dc_ground pm_ground an_ground cd_ground ct_ground), sl_ground⟩) (c_ground : PySem.W.codeIn K cd_ground "_law_ground" = true) (k_ground : PySem.W.keepIn K (.ref f_ground) = true)
    (a_shape : PySem.W.nsIn K mainGlobals "_law_shape" = some (some (.ref f_shape))) (l_shape : K.lookup f_shape = some ⟨oc_shape, od_shape, .func (PySem.W.fnOf "_law_shape" "_law_shape" (defArgs sShape) (defBody sShape) (defScope sShape) .none kV_shape dc_shape pm_shape an_shape cd_shape ct_shape), sl_shape⟩) (c_shape : PySem.W.codeIn K cd_shape "_law_shape" = true) (k_shape : PySem.W.keepIn K (.ref f_shape) = true)
    (a_num : PySem.W.nsIn K mainGlobals "is_number" = some (some (.ref f_num))) (l_num : K.lookup f_num = some ⟨oc_num, od_num, .func (PySem.W.fnOf "is_number" "is_number" (defArgs sNum) (defBody sNum) (defScope sNum) .none kV_num dc_num pm_num an_num cd_num ct_num), sl_num⟩) (c_num : PySem.W.codeIn K cd_num "is_number" = true) (k_num : PySem.W.keepIn K (.ref f_num) = true)
    (a_isn : PySem.W.nsIn K mainGlobals "is_name" = some (some (.ref f_isn))) (l_isn : K.lookup f_isn = some ⟨oc_isn, od_isn, .func (PySem.W.fnOf "is_name" "is_name" (defArgs sIsName) (defBody sIsName) (defScope sIsName) .none kV_isn dc_isn pm_isn an_isn cd_isn ct_isn), sl_isn⟩) (c_isn : PySem.W.codeIn K cd_isn "is_name" = true) (k_isn : PySem.W.keepIn K (.ref f_isn) = true)
    (a_chk : PySem.W.nsIn K mainGlobals "_check_branches" = some (some (.ref f_chk))) (l_chk : K.lookup f_chk = some ⟨oc_chk, od_chk, .func (PySem.W.fnOf "_check_branches" "_check_branches" (defArgs sCheck) (defBody sCheck) (defScope sCheck) .none kV_chk dc_chk pm_chk an_chk cd_chk ct_chk), sl_chk⟩) (c_chk : PySem.W.codeIn K cd_chk "_check_branches" = true) (k_chk : PySem.W.keepIn K (.ref f_chk) = true)
    (a_ist : PySem.W.nsIn K mainGlobals "_is_table" = some (some (.ref f_ist))) (l_ist : K.lookup f_ist = some ⟨oc_ist, od_ist, .func (PySem.W.fnOf "_is_table" "_is_table" (defArgs sIsTab) (defBody sIsTab) (defScope sIsTab) .none kV_ist dc_ist pm_ist an_ist cd_ist ct_ist), sl_ist⟩) (c_ist : PySem.W.codeIn K cd_ist "_is_table" = true) (k_ist : PySem.W.keepIn K (.ref f_ist) = true)
    (a_like : PySem.W.nsIn K mainGlobals "_law_like" = some (some (.ref f_like))) (l_like : K.lookup f_like = some ⟨oc_like, od_like, .func (PySem.W.fnOf "_law_like" "_law_like" (defArgs sLike) (defBody sLike) (defScope sLike) .none kV_like dc_like pm_like an_like cd_like ct_like), sl_like⟩) (c_like : PySem.W.codeIn K cd_like "_law_like" = true) (k_like : PySem.W.keepIn K (.ref f_like) = true)
    (a_idx : PySem.W.nsIn K mainGlobals "is_index" = some (some (.ref f_idx))) (l_idx : K.lookup f_idx = some ⟨oc_idx, od_idx, .func (PySem.W.fnOf "is_index" "is_index" (defArgs sIndex) (defBody sIndex) (defScope sIndex) .none kV_idx dc_idx pm_idx an_idx cd_idx ct_idx), sl_idx⟩) (c_idx : PySem.W.codeIn K cd_idx "is_index" = true) (k_idx : PySem.W.keepIn K (.ref f_idx) = true)
    (a_fits : PySem.W.nsIn K mainGlobals "_fits" = some (some (.ref f_fits))) (l_fits : K.lookup f_fits = some ⟨oc_fits, od_fits, .func (PySem.W.fnOf "_fits" "_fits" (defArgs sFits) (defBody sFits) (defScope sFits) .none kV_fits dc_fits pm_fits an_fits cd_fits ct_fits), sl_fits⟩) (c_fits : PySem.W.codeIn K cd_fits "_fits" = true) (k_fits : PySem.W.keepIn K (.ref f_fits) = true)
    (a_deed : PySem.W.nsIn K mainGlobals "is_deed" = some (some (.ref f_deed))) (l_deed : K.lookup f_deed = some ⟨oc_deed, od_deed, .func (PySem.W.fnOf "is_deed" "is_deed" (defArgs sDeed) (defBody sDeed) (defScope sDeed) .none kV_deed dc_deed pm_deed an_deed cd_deed ct_deed), sl_deed⟩) (c_deed : PySem.W.codeIn K cd_deed "is_deed" = true) (k_deed : PySem.W.keepIn K (.ref f_deed) = true)
    (a_deeds : PySem.W.nsIn K mainGlobals "_law_deeds" = some (some (.ref f_deeds))) (l_deeds : K.lookup f_deeds = some ⟨oc_deeds, od_deeds, .func (PySem.W.fnOf "_law_deeds" "_law_deeds" (defArgs sDeeds) (defBody sDeeds) (defScope sDeeds) .none kV_deeds dc_deeds pm_deeds an_deeds cd_deeds ct_deeds), sl_deeds⟩) (c_deeds : PySem.W.codeIn K cd_deeds "_law_deeds" = true) (k_deeds : PySem.W.keepIn K (.ref f_deeds) = true)
    (a_law : PySem.W.nsIn K mainGlobals "law" = some (some (.ref f_law))) (l_law : K.lookup f_law = some ⟨oc_law, od_law, .func (PySem.W.fnOf "law" "law" (defArgs sLaw) (defBody sLaw) (defScope sLaw) .none kV_law dc_law pm_law an_law cd_law ct_law), sl_law⟩) (c_law : PySem.W.codeIn K cd_law "law" = true) (k_law : PySem.W.keepIn K (.ref f_law) = true)
    (a_init : PySem.W.findIn K (.ref C) "__init__" = some (some (.ref f_init))) (i_init : PySem.W.isFn K (.ref f_init) = true) (l_init : K.lookup f_init = some ⟨oc_init, od_init, .func (PySem.W.fnOf "__init__" "Shape.__init__" (defArgs sInit) (defBody sInit) (defScope sInit) .none kV_init dc_init pm_init an_init cd_init ct_init), sl_init⟩) (c_init : PySem.W.codeIn K cd_init "Shape.__init__" = true) (k_init : PySem.W.keepIn K (.ref f_init) = true)
    (a_gbranches : PySem.W.findIn K (.ref C) "branches" = some (some (.ref p_branches))) (t_gbranches : PySem.W.specialIn K (.ref p_branches) "__get__" = some (some (.builtin "property.__get__"))) (u_gbranches : PySem.W.takesIn K (.ref p_branches) = some true) (r_gbranches : PySem.W.recIn K p_branches "property" = some (.ref f_gbranches :: rs_gbranches)) (l_gbranches : K.lookup f_gbranches = some ⟨oc_gbranches, od_gbranches, .func (PySem.W.fnOf "branches" "Shape.branches" (defArgs sGBranches) (defBody sGBranches) (defScope sGBranches) .none kV_gbranches dc_gbranches pm_gbranches an_gbranches cd_gbranches ct_gbranches), sl_gbranches⟩) (c_gbranches : PySem.W.codeIn K cd_gbranches "Shape.branches" = true) (k_gbranches : PySem.W.keepIn K (.ref f_gbranches) = true)
    (a_gplaces : PySem.W.findIn K (.ref C) "places" = some (some (.ref p_places))) (t_gplaces : PySem.W.specialIn K (.ref p_places) "__get__" = some (some (.builtin "property.__get__"))) (u_gplaces : PySem.W.takesIn K (.ref p_places) = some true) (r_gplaces : PySem.W.recIn K p_places "property" = some (.ref f_gplaces :: rs_gplaces)) (l_gplaces : K.lookup f_gplaces = some ⟨oc_gplaces, od_gplaces, .func (PySem.W.fnOf "places" "Shape.places" (defArgs sGPlaces) (defBody sGPlaces) (defScope sGPlaces) .none kV_gplaces dc_gplaces pm_gplaces an_gplaces cd_gplaces ct_gplaces), sl_gplaces⟩) (c_gplaces : PySem.W.codeIn K cd_gplaces "Shape.places" = true) (k_gplaces : PySem.W.keepIn K (.ref f_gplaces) = true)
    (aC : PySem.W.nsIn K mainGlobals "Shape" = some (some (.ref C)))
    (pg : PySem.W.plainGet K C Str.empty = true)
    (hd : PySem.W.hasDictIn K C = true)
    (po : PySem.W.plainOver K C = true)
    (sa : PySem.W.findIn K (.ref C) "__setattr__" = some (some (.builtin "object.__setattr__")))
    (mk : PySem.W.makesIn K C = true)
    (kc : PySem.W.keepIn K (.ref C) = true)
    (rd : PySem.W.readsIn K C (.type "type") = true)
    (ga : PySem.W.specialIn K (.ref C) "__getattribute__" = some (some (.builtin "type.__getattribute__")))
    (vB : PySem.W.findCls K (.ref C) (.type "type") "BASES" = some (.val (.ref aB)))
    (lB : K.lookup aB = some ⟨.type "tuple", odB, .seq #[.str "newest" u0, .str "eldest" u1, .str "any" u2, .str "every" u3, .str "refuse" u4] nB, slB⟩)
    (a_M : PySem.W.nsIn K mainGlobals "MEANINGS" = some (some (.ref aM))) (lM : K.lookup aM = some ⟨.type "tuple", odM, .seq #[.str "in" v0, .str "out" v1] nM, slM⟩)
    (a_F : PySem.W.nsIn K mainGlobals "FORMS" = some (some (.ref aF))) (lF : K.lookup aF = some ⟨.type "dict", none, .dict (formsEs w.params x0 x1 x2 x3 x4 x5 x6 x7 x8 p0 p1 p2 p3 p4 p5 p6 p7 p8) nF, #[]⟩) (loF : (aF == sysModules) = false)
    (lp0 : K.lookup p0 = some ⟨.type "tuple", odp0, .seq #[.str "branch" k0_0, .str "place" k0_1] np0, slp0⟩)
    (lp1 : K.lookup p1 = some ⟨.type "tuple", odp1, .seq #[.str "branch" k1_0, .str "place" k1_1] np1, slp1⟩)
    (lp2 : K.lookup p2 = some ⟨.type "tuple", odp2, .seq #[.str "branch" k2_0, .str "place" k2_1] np2, slp2⟩)
    (lp3 : K.lookup p3 = some ⟨.type "tuple", odp3, .seq #[.str "branch" k3_0, .str "other" k3_1, .str "place" k3_2, .str "place" k3_3] np3, slp3⟩)
    (lp4 : K.lookup p4 = some ⟨.type "tuple", odp4, .seq #[.str "branch" k4_0, .str "other" k4_1] np4, slp4⟩)
    (lp5 : K.lookup p5 = some ⟨.type "tuple", odp5, .seq #[.str "branch" k5_0, .str "other" k5_1] np5, slp5⟩)
    (lp6 : K.lookup p6 = some ⟨.type "tuple", odp6, .seq #[.str "branch" k6_0] np6, slp6⟩)
    (lp7 : K.lookup p7 = some ⟨.type "tuple", odp7, .seq #[.str "branch" k7_0, .str "other" k7_1] np7, slp7⟩)
    (lp8 : K.lookup p8 = some ⟨.type "tuple", odp8, .seq #[.str "branch" k8_0, .str "meaning" k8_1] np8, slp8⟩)
    (n1 : PySem.W.findIn K (.ref C) "_branches" = some none)
    (n2 : PySem.W.findIn K (.ref C) "_places" = some none)
    (n3 : PySem.W.findIn K (.ref C) "_table" = some none)
    (n4 : PySem.W.findIn K (.ref C) "_bases" = some none)
    (n5 : PySem.W.findIn K (.ref C) "_text" = some none)
    (z_list : PySem.W.nsIn K mainGlobals "list" = some none)
    (z_len : PySem.W.nsIn K mainGlobals "len" = some none)
    (z_int : PySem.W.nsIn K mainGlobals "int" = some none)
    (z_range : PySem.W.nsIn K mainGlobals "range" = some none)
    (z_tuple : PySem.W.nsIn K mainGlobals "tuple" = some none)
    (z_bool : PySem.W.nsIn K mainGlobals "bool" = some none)
    (z_str : PySem.W.nsIn K mainGlobals "str" = some none)
    (z_isinstance : PySem.W.nsIn K mainGlobals "isinstance" = some none)
    (z_all : PySem.W.nsIn K mainGlobals "all" = some none)
    (z_enumerate : PySem.W.nsIn K mainGlobals "enumerate" = some none)
    (z_zip : PySem.W.nsIn K mainGlobals "zip" = some none) :
    ∃ fd : FuncData, (∀ (s : Shared) (v : Value), BindsTo s fd ⟨[v], []⟩ [("_law_script", v)]) ∧ ∀ base : Heap, K.In base → base.Ns mainGlobals mg → FnOk l.prog w K mg base CX0 6 fa fd ["_law_script"] (spLaw K) := by
  have e := hfa.symm.trans (PySem.W.mg_of X G a_law)
  cases e
  have F_opened := fun_mk (st := sOpened) l_opened c_opened k_opened
  have F_pull := fun_mk (st := sPull) l_pull c_pull k_pull
  have F_any := fun_mk (st := sAny) l_any c_any k_any
  have F_names := fun_mk (st := sNames) l_names c_names k_names
  have F_word := fun_mk (st := sWord) l_word c_word k_word
  have F_table := fun_mk (st := sTable) l_table c_table k_table
  have F_ground := fun_mk (st := sGround) l_ground c_ground k_ground
  have F_shape := fun_mk (st := sShape) l_shape c_shape k_shape
  have F_num := fun_mk (st := sNum) l_num c_num k_num
  have F_isn := fun_mk (st := sIsName) l_isn c_isn k_isn
  have F_chk := fun_mk (st := sCheck) l_chk c_chk k_chk
  have F_ist := fun_mk (st := sIsTab) l_ist c_ist k_ist
  have F_like := fun_mk (st := sLike) l_like c_like k_like
  have F_idx := fun_mk (st := sIndex) l_idx c_idx k_idx
  have F_fits := fun_mk (st := sFits) l_fits c_fits k_fits
  have F_deed := fun_mk (st := sDeed) l_deed c_deed k_deed
  have F_deeds := fun_mk (st := sDeeds) l_deeds c_deeds k_deeds
  have F_law := fun_mk (st := sLaw) l_law c_law k_law
  have F_init := fun_mk (st := sInit) l_init c_init k_init
  have F_gbranches := fun_mk (st := sGBranches) l_gbranches c_gbranches k_gbranches
  have F_gplaces := fun_mk (st := sGPlaces) l_gplaces c_gplaces k_gplaces
  have b_opened := F_opened.binds (ps := ["_law_script"]) fun _ _ _ _ _ _ us hl => match us, hl with | [_], _ => rfl
  have b_pull := F_pull.binds (ps := ["_law_bag", "_law_many"]) fun _ _ _ _ _ _ us hl => match us, hl with | [_, _], _ => rfl
  have b_any := F_any.binds (ps := ["_law_bag", "_law_things"]) fun _ _ _ _ _ _ us hl => match us, hl with | [_, _], _ => rfl
  have b_names := F_names.binds (ps := ["_law_bag", "_law_many"]) fun _ _ _ _ _ _ us hl => match us, hl with | [_, _], _ => rfl
  have b_word := F_word.binds (ps := ["_law_bag"]) fun _ _ _ _ _ _ us hl => match us, hl with | [_], _ => rfl
  have b_table := F_table.binds (ps := ["_law_bag"]) fun _ _ _ _ _ _ us hl => match us, hl with | [_], _ => rfl
  have b_ground := F_ground.binds (ps := ["_law_bag", "_law_most"]) fun _ _ _ _ _ _ us hl => match us, hl with | [_, _], _ => rfl
  have b_shape := F_shape.binds (ps := ["_law_ground_here"]) fun _ _ _ _ _ _ us hl => match us, hl with | [_], _ => rfl
  have b_num := F_num.binds (ps := ["value"]) fun _ _ _ _ _ _ us hl => match us, hl with | [_], _ => rfl
  have b_isn := F_isn.binds (ps := ["value"]) fun _ _ _ _ _ _ us hl => match us, hl with | [_], _ => rfl
  have b_chk := F_chk.binds (ps := ["branches"]) fun _ _ _ _ _ _ us hl => match us, hl with | [_], _ => rfl
  have b_ist := F_ist.binds (ps := ["value"]) fun _ _ _ _ _ _ us hl => match us, hl with | [_], _ => rfl
  have b_like := F_like.binds (ps := ["_law_found", "_law_due"]) fun _ _ _ _ _ _ us hl => match us, hl with | [_, _], _ => rfl
  have b_idx := F_idx.binds (ps := ["value", "many"]) fun _ _ _ _ _ _ us hl => match us, hl with | [_, _], _ => rfl
  have b_fits := F_fits.binds (ps := ["shape", "kind", "item", "branch"]) fun _ _ _ _ _ _ us hl => match us, hl with | [_, _, _, _], _ => rfl
  have b_deed := F_deed.binds (ps := ["shape", "value"]) fun _ _ _ _ _ _ us hl => match us, hl with | [_, _], _ => rfl
  have b_deeds := F_deeds.binds (ps := ["_law_ground_here"]) fun _ _ _ _ _ _ us hl => match us, hl with | [_], _ => rfl
  have b_law := F_law.binds (ps := ["_law_script"]) fun _ _ _ _ _ _ us hl => match us, hl with | [_], _ => rfl
  have b_gbranches := F_gbranches.binds (ps := ["self"]) fun _ _ _ _ _ _ us hl => match us, hl with | [_], _ => rfl
  have b_gplaces := F_gplaces.binds (ps := ["self"]) fun _ _ _ _ _ _ us hl => match us, hl with | [_], _ => rfl
  have mb : ∀ {x : Str}, PySem.W.nsIn K mainGlobals x = some none → mg x = none := fun z => PySem.W.mg_none_of X G z
  have mf : ∀ {x : Str} {v : Value}, PySem.W.nsIn K mainGlobals x = some (some v) → mg x = some v := fun z => PySem.W.mg_of X G z
  have T : Blt mg := ⟨mb z_int, mb z_bool, mb z_str, mb z_isinstance, mb z_len, mb z_all, mb z_range, mb z_tuple, mb z_enumerate⟩
  have tB : ∀ H, SqT K H aB (basesL.map V.str) := fun H => .inr ⟨_, _, _, lB, rfl, rfl, by show 5 ≤ sizeLine; decide, .cons ⟨_, rfl⟩ (.cons ⟨_, rfl⟩ (.cons ⟨_, rfl⟩ (.cons ⟨_, rfl⟩ (.cons ⟨_, rfl⟩ .nil))))⟩
  have S : ShT K mg C (.type "type") aB := ⟨⟨pg, hd, po, sa⟩, n1, n2, n3, n4, n5, mf aC, ⟨rd, ga⟩, ⟨vB, rfl⟩, tB⟩
  have Pr : Pre K mg f_pull f_any _ _ := ⟨F_pull, b_pull, mf a_pull, F_any, b_any, mf a_any, mb z_len, mb z_int, mb z_range, mb z_tuple⟩
  refine ⟨PySem.W.fnOf "law" "law" (defArgs sLaw) (defBody sLaw) (defScope sLaw) .none kV_law dc_law pm_law an_law cd_law ct_law, fun s v => .of_eq rfl, fun base _ _ => ?_⟩
  have GK : FnOk l.prog w K mg base CX0 2 f_chk _ ["branches"] (spCheck K) := ok_check F_chk T F_isn b_isn (mf a_isn)
  have GN : FnOk l.prog w K mg base CX0 1 f_num _ ["value"] spNum := ok_num F_num T
  have GT : FnOk l.prog w K mg base CX0 1 f_ist _ ["value"] spIsTab := ok_istab F_ist T
  have body := fun (cdv : Value) (A : Around) (outer : List Env) (s : Shared) (H : Hp) (vs : List V) (Q : VK) (E : XK) (hr : Room 2 (A.deeper (envOfC "Shape.__init__" (defScope sInit) s.heap.objs.size f_init cdv))) (h : spInit C vs H Q E) =>
    body_init (k := 0) (P := l.prog) (w := w) (base := base) T S GK k_chk b_chk (mf a_chk) GN k_num b_num (mf a_num) GT k_ist b_ist (mf a_ist) (f := f_init) cdv A outer s H vs Q E hr h
  have M : MkT l.prog w K mg base C f_init 3 :=
    ⟨⟨mk, a_init, i_init, kc⟩, mf aC,
     fnS_of (gv := fun a b c => [a, b, c]) F_init (fun r1 r2 r3 => .cons r1 (.cons r2 (.cons r3 .nil))) (fun _ _ _ => rfl) (fun kV doc pm an cdv ct u a b c us hl => bindA kV doc pm an cdv ct u a b c us hl) body,
     fnS_of (gv := fun a b c => [c, b, a]) F_init (fun r1 r2 r3 => .cons r3 (.cons r2 (.cons r1 .nil))) (fun _ _ _ => rfl) (fun kV doc pm an cdv ct u a b c us hl => bindB kV doc pm an cdv ct u c b a us hl) body⟩
  have Pb : PropT l.prog w K mg base C "branches" "_branches" := ⟨⟨p_branches, f_gbranches, _, ⟨a_gbranches, t_gbranches, u_gbranches, ⟨_, r_gbranches⟩⟩, b_gbranches, fun k => ok_gbranches F_gbranches S⟩⟩
  have Pp : PropT l.prog w K mg base C "places" "_places" := ⟨⟨p_places, f_gplaces, _, ⟨a_gplaces, t_gplaces, u_gplaces, ⟨_, r_gplaces⟩⟩, b_gplaces, fun k => ok_gplaces F_gplaces S⟩⟩
  have tM : ∀ H, SqT K H aM (([("in" : Str), "out"] : List Str).map V.str) := fun H => .inr ⟨_, _, _, lM, rfl, rfl, by show 2 ≤ sizeLine; decide, .cons ⟨_, rfl⟩ (.cons ⟨_, rfl⟩ .nil)⟩
  have q0 : ∀ H, SqT K H p0 ((["branch", "place"] : List Str).map V.str) := fun H => .inr ⟨_, _, _, lp0, rfl, rfl, by show 2 ≤ sizeLine; decide, (.cons ⟨_, rfl⟩ (.cons ⟨_, rfl⟩ .nil))⟩
  have q1 : ∀ H, SqT K H p1 ((["branch", "place"] : List Str).map V.str) := fun H => .inr ⟨_, _, _, lp1, rfl, rfl, by show 2 ≤ sizeLine; decide, (.cons ⟨_, rfl⟩ (.cons ⟨_, rfl⟩ .nil))⟩
  have q2 : ∀ H, SqT K H p2 ((["branch", "place"] : List Str).map V.str) := fun H => .inr ⟨_, _, _, lp2, rfl, rfl, by show 2 ≤ sizeLine; decide, (.cons ⟨_, rfl⟩ (.cons ⟨_, rfl⟩ .nil))⟩
  have q3 : ∀ H, SqT K H p3 ((["branch", "other", "place", "place"] : List Str).map V.str) := fun H => .inr ⟨_, _, _, lp3, rfl, rfl, by show 4 ≤ sizeLine; decide, (.cons ⟨_, rfl⟩ (.cons ⟨_, rfl⟩ (.cons ⟨_, rfl⟩ (.cons ⟨_, rfl⟩ .nil))))⟩
  have q4 : ∀ H, SqT K H p4 ((["branch", "other"] : List Str).map V.str) := fun H => .inr ⟨_, _, _, lp4, rfl, rfl, by show 2 ≤ sizeLine; decide, (.cons ⟨_, rfl⟩ (.cons ⟨_, rfl⟩ .nil))⟩
  have q5 : ∀ H, SqT K H p5 ((["branch", "other"] : List Str).map V.str) := fun H => .inr ⟨_, _, _, lp5, rfl, rfl, by show 2 ≤ sizeLine; decide, (.cons ⟨_, rfl⟩ (.cons ⟨_, rfl⟩ .nil))⟩
  have q6 : ∀ H, SqT K H p6 ((["branch"] : List Str).map V.str) := fun H => .inr ⟨_, _, _, lp6, rfl, rfl, by show 1 ≤ sizeLine; decide, (.cons ⟨_, rfl⟩ .nil)⟩
  have q7 : ∀ H, SqT K H p7 ((["branch", "other"] : List Str).map V.str) := fun H => .inr ⟨_, _, _, lp7, rfl, rfl, by show 2 ≤ sizeLine; decide, (.cons ⟨_, rfl⟩ (.cons ⟨_, rfl⟩ .nil))⟩
  have q8 : ∀ H, SqT K H p8 ((["branch", "meaning"] : List Str).map V.str) := fun H => .inr ⟨_, _, _, lp8, rfl, rfl, by show 2 ≤ sizeLine; decide, (.cons ⟨_, rfl⟩ (.cons ⟨_, rfl⟩ .nil))⟩
  have FM : Forms K w aF := forms_of lF loF q0 q1 q2 q3 q4 q5 q6 q7 q8
  have GIx : FnOk l.prog w K mg base CX0 2 f_idx _ ["value", "many"] (spIdxD K) := ok_idxD (k := 0) F_idx T F_num b_num (mf a_num)
  have GFt : FnOk l.prog w K mg base CX0 3 f_fits _ ["shape", "kind", "item", "branch"] (spFits K C) := ok_fits (k := 0) F_fits S Pb Pp (mf a_M) tM GIx k_idx b_idx (mf a_idx)
  have GDe : FnOk l.prog w K mg base CX0 4 f_deed _ ["shape", "value"] (spDeed K C) := ok_deed (k := 0) F_deed T (mb z_zip) FM (mf a_F) GFt k_fits b_fits (mf a_fits)
  exact ok_law (k := 0) F_law T (mb z_list) (ok_opened (k := 0) F_opened (mb z_list)) k_opened b_opened (mf a_opened)
    (ok_pull (k := 0) F_pull (mb z_len) (mb z_int)) k_pull b_pull (mf a_pull)
    (ok_any (k := 0) F_any F_pull b_pull (mf a_pull) (mb z_len) (mb z_int)) k_any b_any (mf a_any)
    (ok_ground (k := 0) F_ground Pr F_names b_names (mf a_names) F_table b_table (mf a_table) F_word b_word (mf a_word)) k_ground b_ground (mf a_ground)
    (ok_shape F_shape T M) k_shape b_shape (mf a_shape)
    (ok_deeds (k := 0) F_deeds T (mb z_list)) k_deeds b_deeds (mf a_deeds)
    GDe k_deed b_deed (kb_deed F_deed) (mf a_deed)
    (ok_like F_like T (mb z_list) b_like (mf a_like) 0) k_like b_like (mf a_like)
end KT

open PySem PySem.W PyProof.Rows
set_option maxRecDepth 100000 in
set_option maxHeartbeats 0 in
theorem PySem.Challenge.cw_stillmeant_k10_deeds_judged_holds : PySem.Challenge.rw_stillmeant_k10_deeds_judged.Holds := by
  w_on; o_law; k_head; (case hw => w_witness2)
  k_fill
  refine L2.walk_of (l := PySem.Challenge.rw_stillmeant_k10_deeds_judged) (n := 63) (k := 6) (x := "_law_script") (CX := fun _ => L2.CX0) (sp := fun w => KT.spLaw _) rfl (by decide) rfl ⟨rfl, by decide, by decide⟩ (fun w h Y => PySem.W.kIn_of Y) ?F (fun _ _ a ns hl _ hS => ⟨a, ns, rfl, hS, hl, fun _ => rfl⟩) (fun _ _ _ _ _ h => h)
  case F =>
    intro w mg fa h KX G hmg
    refine' KT.all_mk KX G hmg ?a_opened ?l_opened ?c_opened ?k_opened ?a_pull ?l_pull ?c_pull ?k_pull ?a_any ?l_any ?c_any ?k_any ?a_names ?l_names ?c_names ?k_names ?a_word ?l_word ?c_word ?k_word ?a_table ?l_table ?c_table ?k_table ?a_ground ?l_ground ?c_ground ?k_ground ?a_shape ?l_shape ?c_shape ?k_shape ?a_num ?l_num ?c_num ?k_num ?a_isn ?l_isn ?c_isn ?k_isn ?a_chk ?l_chk ?c_chk ?k_chk ?a_ist ?l_ist ?c_ist ?k_ist ?a_like ?l_like ?c_like ?k_like ?a_idx ?l_idx ?c_idx ?k_idx ?a_fits ?l_fits ?c_fits ?k_fits ?a_deed ?l_deed ?c_deed ?k_deed ?a_deeds ?l_deeds ?c_deeds ?k_deeds ?a_law ?l_law ?c_law ?k_law ?a_init ?i_init ?l_init ?c_init ?k_init ?a_gbranches ?t_gbranches ?u_gbranches ?r_gbranches ?l_gbranches ?c_gbranches ?k_gbranches ?a_gplaces ?t_gplaces ?u_gplaces ?r_gplaces ?l_gplaces ?c_gplaces ?k_gplaces ?aC ?pg ?hd ?po ?sa ?mk ?kc ?rd ?ga ?vB ?lB ?a_M ?lM ?a_F ?lF ?loF ?lp0 ?lp1 ?lp2 ?lp3 ?lp4 ?lp5 ?lp6 ?lp7 ?lp8 ?n1 ?n2 ?n3 ?n4 ?n5 ?z_list ?z_len ?z_int ?z_range ?z_tuple ?z_bool ?z_str ?z_isinstance ?z_all ?z_enumerate ?z_zip
    (case aC => k_is)
    (case a_opened => k_is)
    (case l_opened => k_is)
    (case c_opened => k_is)
    (case k_opened => k_is)
    (case a_pull => k_is)
    (case l_pull => k_is)
    (case c_pull => k_is)
    (case k_pull => k_is)
    (case a_any => k_is)
    (case l_any => k_is)
    (case c_any => k_is)
    (case k_any => k_is)
    (case a_names => k_is)
    (case l_names => k_is)
    (case c_names => k_is)
    (case k_names => k_is)
    (case a_word => k_is)
    (case l_word => k_is)
    (case c_word => k_is)
    (case k_word => k_is)
    (case a_table => k_is)
    (case l_table => k_is)
    (case c_table => k_is)
    (case k_table => k_is)
    (case a_ground => k_is)
    (case l_ground => k_is)
    (case c_ground => k_is)
    (case k_ground => k_is)
    (case a_shape => k_is)
    (case l_shape => k_is)
    (case c_shape => k_is)
    (case k_shape => k_is)
    (case a_num => k_is)
    (case l_num => k_is)
    (case c_num => k_is)
    (case k_num => k_is)
    (case a_isn => k_is)
    (case l_isn => k_is)
    (case c_isn => k_is)
    (case k_isn => k_is)
    (case a_chk => k_is)
    (case l_chk => k_is)
    (case c_chk => k_is)
    (case k_chk => k_is)
    (case a_ist => k_is)
    (case l_ist => k_is)
    (case c_ist => k_is)
    (case k_ist => k_is)
    (case a_like => k_is)
    (case l_like => k_is)
    (case c_like => k_is)
    (case k_like => k_is)
    (case a_idx => k_is)
    (case l_idx => k_is)
    (case c_idx => k_is)
    (case k_idx => k_is)
    (case a_fits => k_is)
    (case l_fits => k_is)
    (case c_fits => k_is)
    (case k_fits => k_is)
    (case a_deed => k_is)
    (case l_deed => k_is)
    (case c_deed => k_is)
    (case k_deed => k_is)
    (case a_deeds => k_is)
    (case l_deeds => k_is)
    (case c_deeds => k_is)
    (case k_deeds => k_is)
    (case a_law => k_is)
    (case l_law => k_is)
    (case c_law => k_is)
    (case k_law => k_is)
    (case a_init => k_is)
    (case i_init => k_is)
    (case l_init => k_is)
    (case c_init => k_is)
    (case k_init => k_is)
    (case a_gbranches => k_is)
    (case t_gbranches => k_is)
    (case u_gbranches => k_is)
    (case r_gbranches => k_is)
    (case l_gbranches => k_is)
    (case c_gbranches => k_is)
    (case k_gbranches => k_is)
    (case a_gplaces => k_is)
    (case t_gplaces => k_is)
    (case u_gplaces => k_is)
    (case r_gplaces => k_is)
    (case l_gplaces => k_is)
    (case c_gplaces => k_is)
    (case k_gplaces => k_is)
    (case pg => k_is)
    (case hd => k_is)
    (case po => k_is)
    (case sa => k_is)
    (case mk => k_is)
    (case kc => k_is)
    (case rd => k_is)
    (case ga => k_is)
    (case vB => k_is)
    (case lB => k_is)
    (case a_M => k_is)
    (case lM => k_is)
    (case a_F => k_is)
    (case lF => k_is)
    (case loF => first | rfl | decide | (decide +kernel))
    (case lp0 => k_is)
    (case lp1 => k_is)
    (case lp2 => k_is)
    (case lp3 => k_is)
    (case lp4 => k_is)
    (case lp5 => k_is)
    (case lp6 => k_is)
    (case lp7 => k_is)
    (case lp8 => k_is)
    (case n1 => k_is)
    (case n2 => k_is)
    (case n3 => k_is)
    (case n4 => k_is)
    (case n5 => k_is)
    (case z_list => k_is)
    (case z_len => k_is)
    (case z_int => k_is)
    (case z_range => k_is)
    (case z_tuple => k_is)
    (case z_bool => k_is)
    (case z_str => k_is)
    (case z_isinstance => k_is)
    (case z_all => k_is)
    (case z_enumerate => k_is)
    (case z_zip => k_is)
