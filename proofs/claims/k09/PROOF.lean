import PyProof.Rows.All
import Wide.All
import OpenK.AllK
import Wide.FinOn
import HandS.ForMost
import HandS.Wide
import HandS.Codes
import HandS.Walk
import PyProof.P3In
import PyProof.Rows.InDataRows
import HandS.IsInst
import KE.GoesMore
import KE.GoesEnum
import KE.DataFind
import PyProof.InstNe
import PyProof.InstEq
import OpenK.KOps
import OpenK.KMake
import HandS.TupAny
import HandS.ForExc
import HandS.ClsMeth
import HandS.ExcInit
import HandS.ExcCtx
import HandS.HotCalls
import HandS.ExcInitHot
import HandS.Lambda
import KE.KTryMore
import HandS.ExcIs
import HandS.ExcField
import KE.KExcIs
import HandS.Hot
import HandS.Zip
import HandS.Comp
import KE.GoesZip
import KE.KStateDown
import Lean
import HandS.EndOwn
import HandS.Defaults
import HandS.Head0
import HandS.Head1
import HandS.Head2
import HandS.HeadEnd
import HandS.HeadHook1
import HandS.HeadHook2
import HandS.FStr
import HandS.Conv
import HandS.TupMul
import KE.KNestM
import PySem.Challenge.RW_aheadfold_k09_whole_walkers_are_equal_wh
set_option Elab.async false
set_option maxRecDepth 100000
/-! Rules and words that speak of no row. -/
namespace KW
open PySem PySem.Spec PyProof.Rows L2
section
variable {X : Cx}
/-- o[j] of a list, by values, for o[j] op= e -/
def rGetL (K : PySem.W.Frag) : V → V → Hp → VK → Prop := fun o i H Q =>
  ∃ (p : Addr) (xs : List V) (j : Nat) (v : V), o = .ref p ∧ i = .int j ∧ SqL K H p xs ∧ xs[j]? = some v ∧ Q v H
theorem get_list : PGet X (rGetL X.K) := by
  intro pins s σ H o i ov iv Q I ro ri h
  obtain ⟨p, xs, j, v, rfl, rfl, hq, he, q⟩ := h
  cases ro
  obtain ⟨t, rfl⟩ := ri
  obtain ⟨its, r, pl, hz⟩ := I.list hq
  obtain ⟨u, eu, ru⟩ := r.get he
  have hj : j < xs.length := (List.getElem?_eq_some_iff.mp he).1
  have h63 := line63
  exact wpAny_getItem_list pl.isList (by omega) (by omega) (by simpa using eu) ⟨v, H, I, ru, q⟩
/-! ### by the K that is written, for blocks -/
def rTupleOf (K : PySem.W.Frag) : List V → Hp → VK → Prop := fun xs H Q => ∃ p ys, xs = [.ref p] ∧ ((SqL K H p ys ∧ ∀ l, H l = none → Q (.ref l) (upd H l (.tup ys))) ∨ (SqT K H p ys ∧ Q (.ref p) H))
theorem call_tupleK {K : PySem.W.Frag} (h : X.K = K) : CallR X (.type "tuple") (rTupleOf K) := by
  subst h
  exact call_tuple_of
def rListOf (K : PySem.W.Frag) : List V → Hp → VK → Prop := fun xs H Q => ∃ p ys, xs = [.ref p] ∧ (SqL K H p ys ∨ SqT K H p ys) ∧ ∀ l, H l = none → Q (.ref l) (upd H l (.lst ys))
theorem call_listK {K : PySem.W.Frag} (h : X.K = K) : CallR X (.type "list") (rListOf K) := by
  subst h
  exact call_list_of
theorem ix_listK {K : PySem.W.Frag} (h : X.K = K) : IxR X (rIxL K) := by
  subst h
  exact ix_list
theorem ix_tupK {K : PySem.W.Frag} (h : X.K = K) : IxR X (rIxT K) := by
  subst h
  exact ix_tup
theorem ix_seqK {K : PySem.W.Frag} (h : X.K = K) : IxR X (rIx K) := by
  subst h
  exact ix_seq
/-- a tuple whose object is known to have no dict -/
def FzT (H : Hp) (q : Addr) (as : List V) : Prop := ∃ o : Obj, H q = some (.frz o (.tup as)) ∧ o.dict = none
theorem FzT.sq {K : PySem.W.Frag} {H : Hp} {q : Addr} {as : List V} (h : FzT H q as) : SqT K H q as := by
  obtain ⟨o, h, _⟩ := h
  exact .inl (.inr ⟨o, h⟩)
def rTupleF (K : PySem.W.Frag) : List V → Hp → VK → Prop := fun xs H Q => ∃ p ys, xs = [.ref p] ∧ SqL K H p ys ∧ ∀ (l : Addr) (o : Obj), H l = none → o.dict = none → Q (.ref l) (upd H l (.frz o (.tup ys)))
theorem call_tupleF : CallR X (.type "tuple") (rTupleF X.K) := by
  intro pins st σ H xs us Q I rel hyp
  obtain ⟨p, ys, rfl, hsq, hq⟩ := hyp
  cases rel with
  | cons r0 r1 =>
    cases r1
    cases r0
    obtain ⟨its, vals, plain, short⟩ := I.list hsq
    have ln := vals.length
    refine call_tuple_list plain.isList (fun h' keep => ?_) (by simp only [List.size_toArray]; omega)
    have J : Inv X pins σ H { st with heap := h' } := I.kept (t' := st.toks) keep
    have J2 : Inv X pins σ (upd H h'.objs.size (.frz { cls := .type "tuple", data := .seq its.toArray } (.tup ys))) { st with heap := h'.push { cls := .type "tuple", data := .seq its.toArray } } :=
      J.laid (t' := st.toks) (fun c u hc => Heap.get?_push_of_some _ hc) (Nat.le_refl _) ⟨Heap.get?_push_size _ rfl, short, its, vals, IsTup.new _ _⟩
    exact ⟨.ref h'.objs.size, _, J2, rfl, hq _ _ (J.hok.fresh (Nat.le_refl _)) rfl⟩
theorem boot_tuple' : bootBuiltins "tuple" = some (.type "tuple") := by decide +kernel
theorem boot_list' : bootBuiltins "list" = some (.type "list") := by decide +kernel
end
/-- the drawing bag at b: its list at l holds ns -/
def BagAt (b l : Addr) (ns : List Int) (H : Hp) : Prop :=
  (∃ i r s c : Int, H b = some (.lst [.ref l, .int i, .int r, .int s, .int c]) ∧ 0 ≤ i) ∧ H l = some (.lst (ns.map V.int)) ∧ b ≠ l
/-- all but b is as it was -/
def Off (b : Addr) (H H' : Hp) : Prop := ∀ a, a ≠ b → H' a = H a
theorem Off.refl (b : Addr) (H : Hp) : Off b H H := fun _ _ => rfl
theorem Off.trans {b : Addr} {H H1 H2 : Hp} (x : Off b H H1) (y : Off b H1 H2) : Off b H H2 := fun a h => (y a h).trans (x a h)
theorem Off.upd {b : Addr} {H : Hp} {o : HO} : Off b H (upd H b o) := fun _ h => upd_ne h
theorem BagAt.put {b l : Addr} {ns : List Int} {H : Hp} (B : BagAt b l ns H) {i r s c : Int} (h : 0 ≤ i) : BagAt b l ns (upd H b (.lst [.ref l, .int i, .int r, .int s, .int c])) :=
  ⟨⟨i, r, s, c, upd_same, h⟩, by rw [upd_ne B.2.2.symm]; exact B.2.1, B.2.2⟩
end KW

set_option Elab.async false
set_option maxRecDepth 100000
/-! Rules and words that speak of no row, further: in over a tuple of data; rows of numbers. -/
namespace KW
open PySem PySem.Spec PyProof.Rows L2
section
variable {X : Cx}
def rInTD (K : PySem.W.Frag) : R2 := fun x y H Q => ∃ d ds, Dp K H x d ∧ Dp K H y (.tuple ds) ∧ SeqAt.shaped d = true ∧ SeqAt.shaped (.tuple ds) = true ∧ Q (.bl (ds.any fun z => PyData.eqv z d)) H
theorem op_inTD (hu : X.A.units + 65 < cLine) : OpR X (compareOp .In) (rInTD X.K) := by
  intro pins s σ H x y v u Q I rx ry h
  obtain ⟨d, ds, hd, he, sd, se, q⟩ := h
  obtain ⟨as, r1⟩ := Dp.reads I d x v hd rx
  obtain ⟨bs, r2⟩ := Dp.reads I (.tuple ds) y u he ry
  exact SeqAt.in_tuple_reads r2 r1 (SeqAt.canLay_of_shaped se) (SeqAt.canLay_of_shaped sd) (room_in_shaped sd hu) ⟨.bl _, H, I, rfl, q⟩
end
theorem hu65 {A : Around} {k : Nat} (hr : Room k A) : A.units + 65 < cLine := by
  have := hr.un
  omega
/-! ### numbers -/
def nV (i : Nat) : V := .int (i : Int)
def nums (l : List Nat) : List V := l.map nV
theorem nums_snoc (l : List Nat) (i : Nat) : nums (l ++ [i]) = nums l ++ [.int (i : Int)] := by
  unfold nums
  rw [List.map_append]
  rfl
def nD (i : Nat) : PyData := .int (i : Int)
def rowD (l : List Nat) : PyData := .tuple (l.map nD)
theorem nums_lay : ∀ l : List Nat, PyData.canLayAll0 (l.map nD) = true
  | [] => by simp [PyData.canLayAll0]
  | i :: l => by simp [PyData.canLayAll0, nD, PyData.canLay0, nums_lay l]
theorem nums_depth : ∀ l : List Nat, PyData.depthAll (l.map nD) = 0
  | [] => by simp [PyData.depthAll]
  | i :: l => by simp [PyData.depthAll, nD, PyData.depth, nums_depth l]
theorem rows_lay : ∀ ls : List (List Nat), PyData.canLayAll0 (ls.map rowD) = true
  | [] => by simp [PyData.canLayAll0]
  | l :: ls => by simp [PyData.canLayAll0, rowD, PyData.canLay0, nums_lay l, rows_lay ls]
theorem rows_depth : ∀ ls : List (List Nat), PyData.depthAll (ls.map rowD) ≤ 1
  | [] => by simp [PyData.depthAll]
  | l :: ls => by
    have h1 := rows_depth ls
    simp only [List.map_cons, PyData.depthAll, rowD, PyData.depth, nums_depth]
    omega
theorem shaped_of {d : PyData} (h1 : d.canLay0 = true) (h2 : d.depth ≤ 64) : SeqAt.shaped d = true := by
  unfold SeqAt.shaped
  rw [h1, decide_eq_true h2]
  rfl
theorem rows_shaped (ls : List (List Nat)) : SeqAt.shaped (.tuple (ls.map rowD)) = true := by
  have h1 := rows_depth ls
  exact shaped_of (by simp only [PyData.canLay0]; exact rows_lay ls) (by simp only [PyData.depth]; omega)
theorem nil_shaped : SeqAt.shaped (.tuple []) = true := by decide
theorem nil_in (ls : List (List Nat)) : ((ls.map rowD).any fun z => PyData.eqv z (.tuple [])) = ls.any (·.isEmpty) := by
  rw [List.any_map]
  congr 1
  funext l
  cases l <;> simp [rowD, PyData.eqv, PyData.eqvAll]
theorem dp_nums {K : PySem.W.Frag} {H : Hp} : ∀ l : List Nat, DpAll K H (nums l) (l.map nD)
  | [] => .nil
  | i :: l => .cons (.int _) (dp_nums l)
/-! ### rows of numbers, each a tuple -/
def IsR (H : Hp) (v : V) (l : List Nat) : Prop := ∃ a, v = .ref a ∧ H a = some (.tup (nums l))
abbrev RowsIn (H : Hp) (vs : List V) (ls : List (List Nat)) : Prop := Paired (IsR H) vs ls
theorem dp_rows {K : PySem.W.Frag} {H : Hp} : ∀ {vs : List V} {ls : List (List Nat)}, RowsIn H vs ls → DpAll K H vs (ls.map rowD)
  | _, _, .nil => .nil
  | _, _, .cons ⟨a, e, h⟩ r => by
    rw [e]
    exact .cons (.tup (SqT.of h) (dp_nums _)) (dp_rows r)
/-! ### the places of a number -/
def idxs : List Nat → Nat → Nat → List Nat
  | [], _, _ => []
  | p :: ps, r, k => if p = r then k :: idxs ps r (k + 1) else idxs ps r (k + 1)
theorem idxs_snoc (p r : Nat) : ∀ (ps : List Nat) (k : Nat), idxs (ps ++ [p]) r k = idxs ps r k ++ (if p = r then [k + ps.length] else [])
  | [], k => by
    show idxs [p] r k = _
    unfold idxs
    split <;> simp [idxs]
  | q :: ps, k => by
    have ih := idxs_snoc p r ps (k + 1)
    show idxs (q :: (ps ++ [p])) r k = _
    unfold idxs
    rw [ih]
    have e : k + 1 + ps.length = k + (q :: ps).length := by simp; omega
    rw [e]
    split <;> simp
theorem idxs_len (r : Nat) : ∀ (ps : List Nat) (k : Nat), (idxs ps r k).length ≤ ps.length
  | [], k => by simp [idxs]
  | q :: ps, k => by
    have ih := idxs_len r ps (k + 1)
    unfold idxs
    split <;> simp <;> omega
theorem idxs_none (r : Nat) : ∀ (ps : List Nat) (k : Nat), idxs ps r k = [] → r ∉ ps
  | [], k, _ => by simp
  | q :: ps, k, h => by
    unfold idxs at h
    split at h
    · cases h
    · rename_i hq
      have ih := idxs_none r ps (k + 1) h
      intro z
      rcases List.mem_cons.mp z with e | e
      · exact hq e.symm
      · exact ih e
/-- for each number below n its places -/
def gat (n : Nat) (ps : List Nat) : List (List Nat) := (List.range n).map fun r => idxs ps r 0
theorem gat_len (n : Nat) (ps : List Nat) : (gat n ps).length = n := by simp [gat]
theorem gat_full {n : Nat} {ps : List Nat} (h : ∀ r, r < n → r ∈ ps) : (gat n ps).any (·.isEmpty) = false := by
  rw [List.any_eq_false]
  intro l hl z
  obtain ⟨r, hr, e⟩ := List.mem_map.mp hl
  subst e
  exact idxs_none r ps 0 (List.isEmpty_iff.mp z) (h r (List.mem_range.mp hr))
end KW

set_option Elab.async false
set_option maxRecDepth 100000
set_option maxHeartbeats 1000000
/-! Rules that speak of no row: enumerate(tuple); t.count(x); len, repr, ==, != by an own class's methods. -/
namespace KW
open PySem PySem.Spec PyProof.Rows L2
/-! ### enumerate(t), t a tuple -/
theorem meets_enum1 {v : Value} {ob : Obj} {G : Heap → Prop} (B : Begins v ob G) :
    Meets (Builtin.«enumerate.__new__» ⟨[.type "enumerate", v], []⟩) (fun _ R st => G st.heap ∧
      R (.ok (.ret (.ref (st.heap.push ob).objs.size))) { st with heap := (st.heap.push ob).push { cls := .type "enumerate", data := .fields #[.none, .bool false, .ref st.heap.objs.size, rawInt 0, .none, .none] } }) :=
  .of_wp fun prog w A R st hyp => by
    obtain ⟨hp, gs, dr, tk, os⟩ := st
    obtain ⟨hG, hR⟩ := hyp
    have sub1 := sub_enumerate
    have begin1 : ∀ {A1 : Around} {E1 : Value → Shared → Prop} {Q1 : Value → Shared → Prop}, Q1 (.ref hp.objs.size) ⟨hp.push ob, gs, dr, tk, os⟩ → wpAny (model prog w) A1 (pyIter v) Q1 E1 ⟨hp, gs, dr, tk, os⟩ :=
      fun hq => B.iter prog w _ _ ⟨hp, gs, dr, tk, os⟩ _ hG hq
    wp_walk using begin1
    refine wpAny_stack_any fun stk => wpAny_pure ?_
    split
    · rename_i cl _ _ _ _ _
      cases (cl == Value.type "enumerate") <;> (wp_walk using begin1; exact ⟨_, rfl, hR⟩)
    · wp_walk using begin1
      exact ⟨_, rfl, hR⟩
theorem call_enum1 {prog : Program} {w : World} {A : Around} {E : Value → Shared → Prop} {st : Shared} {v : Value} {ob : Obj} {G : Heap → Prop} {Q : Value → Shared → Prop} (B : Begins v ob G) (hG : G st.heap)
    (hQ : ∀ h', IsEnum h' (st.heap.objs.size + 1) st.heap.objs.size 0 .none → h'.get? st.heap.objs.size = some ob → (∀ c u, st.heap.get? c = some u → h'.get? c = some u) → Q (.ref (st.heap.objs.size + 1)) { st with heap := h' }) :
    wpAny (model prog w) A (call (.type "enumerate") [v]) Q E st := by
  refine callType_new F.called_enumerate (by decide) (F.typeCall_enumerate_1 _) (F.newCall_enumerate_1 _) (fun self => F.args_object_init_2 self _) F.entry_enumerate_new (meets_enum1 B) ⟨hG, ?_⟩
  have size1 : (st.heap.push ob).objs.size = st.heap.objs.size + 1 := Heap.size_push ..
  have isE : IsEnum ((st.heap.push ob).push { cls := .type "enumerate", data := .fields #[.none, .bool false, .ref st.heap.objs.size, rawInt 0, .none, .none] }) (st.heap.objs.size + 1) st.heap.objs.size 0 .none := by
    have last := Heap.get?_push_size (st.heap.push ob) (o := { cls := .type "enumerate", data := .fields #[.none, .bool false, .ref st.heap.objs.size, rawInt 0, .none, .none] }) rfl
    rw [size1] at last
    exact last
  show _ ∧ _
  rw [size1]
  exact ⟨⟨_, isE, rfl⟩, hQ _ isE (Heap.get?_push_of_some _ (Heap.get?_push_size _ B.free)) fun c u hc => Heap.get?_push_of_some _ (Heap.get?_push_of_some _ hc)⟩
/-- the tuple at a, each item with its number in a new pair -/
def ItEnT (K : PySem.W.Frag) (a : Addr) : It where
  go := fun i H => ∃ (xs : List V) (x : V), SqT K H a xs ∧ xs[i]? = some x
  yld := fun i H v H' => ∃ T x, v = .ref T ∧ H T = none ∧ H' = upd H T (.tup [.int (i : Nat), x]) ∧ ∀ xs, SqT K H a xs → xs[i]? = some x
  stop := fun i H => ∃ xs : List V, SqT K H a xs ∧ xs.length ≤ i
theorem turn_enT {P : Program} {w : World} {K : PySem.W.Frag} {els : List Expr} {kk : Nat} {tp : Pos} (a en it : Addr) :
    Turn P w K (.Tuple els kk tp) (ItEnT K a) [en, it] en (fun i h => (∃ old, IsEnum h en it ((i : Nat) : Int) old) ∧ h.IsTupleIter it a i ∧ en ≠ it ∧ en ≠ a ∧ a ≠ it) where
  mem := by simp
  obj := fun i h state c hc => by
    obtain ⟨⟨old, hen⟩, ⟨ob, hob, _, hdat⟩, _⟩ := state
    rcases (by simpa using hc : c = en ∨ c = it) with hz | hz
    · subst hz
      exact ⟨_, hen, fun v bad => nomatch bad⟩
    · subst hz
      exact ⟨ob, hob, fun v bad => by rw [hdat] at bad; cases bad⟩
  keep := fun i h h' state stay => by
    obtain ⟨⟨old, hen⟩, hti, n1, n2, n3⟩ := state
    exact ⟨⟨old, stay en (by simp) _ hen⟩, hti.at fun ob hob => stay it (by simp) ob hob, n1, n2, n3⟩
  item := by
    intro X eP ew eK calm i pins st σ H E I fresh state going
    subst eP ew eK
    obtain ⟨⟨old, hen⟩, hti, n1, n2, n3⟩ := state
    obtain ⟨xs, x, hsq, hx⟩ := going
    obtain ⟨its, vals, isT, _⟩ := I.tuple hsq
    obtain ⟨u, hu, ru⟩ := vals.get hx
    have hlt : i < its.toArray.size := by
      have := (List.getElem?_eq_some_iff.mp hu).1
      simpa using this
    have enOld : en < st.heap.objs.size := Heap.lt_size hen
    have itOld : it < st.heap.objs.size := by
      obtain ⟨_, hq, _⟩ := hti
      exact Heap.lt_size hq
    have D := Draws.tuple (prog := X.prog) (w := X.w) (A := X.A.in1) (I.ok.hd calm) it a n3 its.toArray
    refine wpAny_pyNext_enum_itemD D hen ⟨hti, isT⟩ hlt n1 (by simp [n1, n2]) fun y h' tk hy hout hti' hnew hsz hkeep => ?_
    have ey : y = u := by
      have q : its.toArray[i]? = some u := by simpa using hu
      rw [q] at hy
      exact (Option.some.inj hy).symm
    subst ey
    refine ⟨_, rfl, wpAny_letOwnedTupleGo_enum (s := { st with heap := h', toks := tk + 1 }) hout fun h2 hen2 same2 => ?_⟩
    have new2 : h2.get? st.heap.objs.size = some { cls := .type "tuple", data := .seq #[.int i tk, y] } := (same2.2 _ (Nat.ne_of_gt enOld)).trans hnew
    have okT : ObjOk X.prog X.w (upd H st.heap.objs.size (.tup [.int (i : Nat), x])) h2 st.heap.objs.size (.tup [.int (i : Nat), x]) :=
      ⟨by show 2 ≤ sizeLine; decide, [.int i tk, y], .cons ⟨_, rfl⟩ (.cons ru .nil), ⟨_, new2, rfl, _, rfl⟩⟩
    have I2 : Inv X pins σ (upd H st.heap.objs.size (.tup [.int (i : Nat), x])) { st with heap := h2, toks := tk + 1 } :=
      I.turnedNew (ch := [en, it]) (fun c ob hc hob => (same2.2 c (fun z => hc (by simp [z]))).trans (hkeep c ob (fun z => hc (by simp [z])) (fun z => hc (by simp [z])) hob)) fresh (Nat.le_refl _) okT
    have casts : ((i + 1 : Nat) : Int) = (i : Int) + 1 := by omega
    refine ⟨.ref st.heap.objs.size, _, I2, rfl, ⟨_, x, rfl, I.hok.fresh (Nat.le_refl _), rfl, fun ys hys => by rw [I.tuple_inj hys hsq]; exact hx⟩,
      ⟨⟨y, by rw [casts]; exact hen2⟩, hti'.1.at fun ob hob => (same2.2 it n1.symm).trans hob, n1, n2, n3⟩, fun c hc => ?_⟩
    have cOld : c < st.heap.objs.size := by
      rcases (by simpa using hc : c = en ∨ c = it) with hz | hz
      · rw [hz]; exact enOld
      · rw [hz]; exact itOld
    rw [upd_ne (Nat.ne_of_lt cOld)]
    exact (fresh c hc).1
  done := by
    intro X eP ew eK calm i pins st σ H E I fresh state stopping
    subst eP ew eK
    obtain ⟨⟨old, hen⟩, hti, n1, n2, n3⟩ := state
    obtain ⟨xs, hsq, hlen⟩ := stopping
    obtain ⟨its, vals, isT, _⟩ := I.tuple hsq
    obtain ⟨f0, f1, f2, f3, f4, f5⟩ := fresh it (by simp)
    have ln := vals.length
    have hT : st.TypeIs (.ref en) "enumerate" := ⟨_, hen, rfl⟩
    unfold pyNext
    refine wpAny_bind (wpAny_attempt (wpAny_callSpecial?_slot (name := Str.ofString "__next__") hT F.slot_enumerate_next (wpAny_call_entry F.slot_enumerate_next hT F.entry_enumerate_next ?_ (F.args_enumerate_next_1 _))))
    show wpAny _ _ (field (.ref en) 2 >>= _) _ _ _
    refine wpAny_bind (wpAny_field hen rfl (x := .ref it) rfl ?_)
    refine wpAny_bind (wpAny_nextOf_tuple_end (I.ok.hd calm) hti (show st.heap.IsTuple a its.toArray from isT) (by simp; omega) fun h' ex ext hex => ?_)
    obtain ⟨ob, hob, hcl⟩ := hex
    refine wpAny_bind (wpAny_isInstance (T := "StopIteration") (b := true) ⟨ob, hob, hcl⟩ isSubtype_stop ?_)
    exact wpAny_pure ⟨rfl, I.turned (t' := st.toks) (fun c u hc hcu => ext c u hc hcu) f0 f1 f3 f4 f5⟩
  self := fun A i st Q E state hq => by
    obtain ⟨⟨old, hen⟩, _⟩ := state
    exact wpAny_pyIter_enum hen hq
def iEnT (K : PySem.W.Frag) (ta : TA) : TI := fun σ H R => ta σ H fun vs H1 => ∃ a xs, vs = [.ref a] ∧ SqT K H1 a xs ∧ R (ItEnT K a) H1
theorem pi_enT {X : Cx} {e : Expr} {ta : TA} {p pos tp : Pos} {els : List Expr} {kk : Nat} (hg : Gl X "enumerate") (hm : X.mg "enumerate" = none) (ha : PA X [e] ta) (hs : starEach [e] X.env = [(false, eval e X.env)] := by rfl) :
    PI X (.Tuple els kk tp) (.Call (.Name "enumerate" p) [e] [] pos) (iEnT X.K ta) := by
  refine ⟨fun pins st σ H R I hyp => ?_⟩
  refine Call_ (ld_blt I hg hm PyProof.Rows.boot_enumerate (PyProof.Rows.callWith_type1 (thn (ha.run pos pins st σ H _ I hyp) fun us s1 ⟨vs, H1, I1, rel, rest⟩ => ?_) hs rfl))
  obtain ⟨a, xs, ev, hsq, hR⟩ := rest
  subst ev
  cases rel with
  | cons r0 r1 =>
    cases r1
    cases r0
    obtain ⟨its, vals, isT, _⟩ := I1.tuple hsq
    have aOld : a < s1.heap.objs.size := IsTup.lt isT
    refine call_enum1 (begins_tuple a its.toArray) (show s1.heap.IsTuple a its.toArray from isT) fun h' hen hit hkeep => wpAny_pyIter_enum hen ?_
    have I2 : Inv X pins σ H1 { s1 with heap := h' } := I1.kept (t' := s1.toks) hkeep
    refine ⟨s1.heap.objs.size + 1, [s1.heap.objs.size + 1, s1.heap.objs.size], _, _, H1, rfl, I2, turn_enT a (s1.heap.objs.size + 1) s1.heap.objs.size,
      ⟨⟨.none, hen⟩, ⟨_, hit, rfl, rfl⟩, Nat.succ_ne_self _, Nat.ne_of_gt (Nat.lt_succ_of_lt aOld), Nat.ne_of_lt aOld⟩, fun c hc => ?_, hR⟩
    have newer : s1.heap.objs.size ≤ c := by
      rcases (by simpa using hc : c = s1.heap.objs.size + 1 ∨ c = s1.heap.objs.size) with hz | hz
      · rw [hz]; exact Nat.le_succ _
      · rw [hz]; exact Nat.le_refl _
    exact I1.fpOk newer (I1.hok.fresh newer)
theorem walk_enT {K : PySem.W.Frag} {a : Addr} {xs : List V} : Walk (ItEnT K a) xs.length (fun H => SqT K H a xs) (YPair (fun i => some (.int (i : Nat))) (fun i => xs[i]?)) := by
  refine ⟨fun i _ hi hsq => ⟨xs, xs[i], hsq, by simp [hi]⟩, fun _ hsq => ⟨xs, hsq, Nat.le_refl _⟩, fun i H v H' _ hsq told => ?_⟩
  obtain ⟨T, x, e1, e2, e3, e4⟩ := told
  exact ⟨T, .int (i : Nat), x, e1, e2, e3, rfl, e4 xs hsq⟩
/-! ### t.count(x) -/
section
variable {X : Cx}
def rTCount (K : PySem.W.Frag) : V → List V → Hp → VK → Prop := fun x vs H Q => ∃ (a : Addr) (y : V) (d : PyData) (ds : List PyData), x = .ref a ∧ vs = [y] ∧ Dp K H (.ref a) (.tuple ds) ∧ Dp K H y d ∧ PyData.plainAll ds = true ∧ d.plain = true ∧ d.depth ≤ 64 ∧
  Q (.int ((ds.countP fun z => PyData.eqv z d : Nat) : Int)) H
theorem mt_tcount (hu : X.A.units + 65 < cLine) : MtR X "tuple.count" (rTCount X.K) := by
  intro pins st σ H x vs v us Q I rx rs hyp
  obtain ⟨a, y, d, ds, rfl, rfl, ha, hy, pl, pd, dep, q⟩ := hyp
  cases rx
  cases rs with
  | cons ry rt =>
    rename_i uy ut
    cases rt
    obtain ⟨bs, r1⟩ := Dp.reads I d y uy hy ry
    cases ha with
    | tup hsq hall =>
      obtain ⟨its, vals, isT, _⟩ := I.tuple hsq
      obtain ⟨as, r2⟩ := Dp.readsAll I ds _ its hall vals
      have few : min (PyData.depthAll ds) d.depth ≤ 64 := Nat.le_trans (Nat.min_le_right _ _) dep
      exact SeqAt.count_tuple_data (show st.heap.IsTuple a its.toArray from isT) (show ReadsAll st.heap its.toArray.toList ds as from r2) r1 pl pd (by omega) ⟨.int _, H, I.tok _, ⟨_, rfl⟩, q⟩
/-- o.count(e), o a tuple without a dict -/
def tTC (K : PySem.W.Frag) (to : TE) (t : TA) : TE := fun σ H Q => to σ H fun x H1 => ∃ q as, x = .ref q ∧ FzT H1 q as ∧ t σ H1 fun xs H2 => rTCount K x xs H2 Q
theorem pe_tcount {o e : Expr} {es : List Expr} {to : TE} {t : TA} {ap cp : Pos} (hu : X.A.units + 65 < cLine) (ho : PE X o to) (ha : PA X (e :: es) t)
    (hbase : attributeBase o "count" X.env (eval o X.env) = eval o X.env := by rfl)
    (few : ((backTo cp (starEach (e :: es) X.env)).all (fun x => !x.1) && (backToKw cp (keywordEach [] X.env)).all (fun x => x.1.isSome) && decide ((e :: es).length + ([] : List Keyword).length + (if ([] : List Keyword).isEmpty then 0 else 1) < 30)) = true := by rfl)
    (line : (ap.endLine == cp.line) = true := by rfl) (hs : starEach (e :: es) X.env = (false, eval e X.env) :: starEach es X.env := by rfl) (hpl : (backTo cp (starEach es X.env)).any (·.1) = false := by rfl) :
    PE X (.Call (.Attribute o "count" ap) (e :: es) [] cp) (tTC X.K to t) := by
  refine ⟨fun pins st σ H Q I hyp => ?_⟩
  refine wpAny_Call_method_late hbase few line rfl (thn (ho.run pins st σ H _ I hyp) fun v s1 ⟨x, H1, I1, rx, q, as, ex, hfz, rest⟩ => ?_)
  subst ex
  cases rx
  obtain ⟨ob, hfz, hdict⟩ := hfz
  obtain ⟨hob, _, its, _, ob2, hob2, hcl, _⟩ := (show ObjOk X.prog X.w H1 s1.heap q (.frz ob (.tup as)) from I1.hok q _ hfz)
  have same : ob2 = ob := Option.some.inj (hob2.symm.trans hob)
  subst same
  refine ⟨"tuple", "tuple.count", PySem.F.plainAttrs_tuple, PySem.F.slot_tuple_count, PySem.F.type_tuple_count, ⟨ob2, hob2, hcl⟩, fun a ea => by cases ea; exact ⟨ob2, hob2, hdict⟩, ?_⟩
  have args := ha.run cp pins s1 σ H1 _ I1 rest
  rw [hs] at args ⊢
  refine Calls.callWith_builtin (by show (false || (backTo cp (starEach es X.env)).any (·.1)) = false; rw [hpl]; rfl) (Calls.evalArgs_plain ?_)
  exact thn args fun us s2 ⟨vs, H2, I2, rv, hq⟩ => mt_tcount hu pins s2 σ H2 (.ref q) vs _ us Q I2 rfl rv hq
end
end KW

set_option Elab.async false
set_option maxRecDepth 100000
set_option maxHeartbeats 1000000
/-! Rules that speak of no row: len, repr, ==, != by an own class's methods. -/
namespace KW
open PySem PySem.Spec PyProof.Rows L2
section
variable {X : Cx} {CX : CXT} {k : Nat} {f C : Addr} {fd : FuncData} {ps : List Str} {sp : Sp} {E : XK}
/-- a def of the text runs somewhere below the body X -/
theorem run_sub {A : Around} {pins : List (Addr × Obj)} {σ : L2.St} {H : Hp} {st : Shared} {Q : VK} {us : List Value} {vs : List V} (F : FnOk X.prog X.w X.K X.mg X.base CX k f fd ps sp) (room : Room k A) (same : A.frames = X.A.frames) (hb : Binds X.K fd ps []) (hx : Passes CX X E)
    (I : Inv X pins σ H st) (rel : Vals vs us) (hyp : sp vs H Q E) : wpAny (model X.prog X.w) A (call (.ref f) us) (EP X pins σ Q) X.xe st := by
  have ln : us.length = ps.length := by
    rw [← rel.length]
    exact F.len _ _ _ _ hyp
  have bound := hb st us I.kIn (by rw [List.append_nil]; exact ln)
  rw [List.append_nil] at bound
  have env : Env0 X.prog X.w X.K X.mg X.base A X.stack st H := by
    obtain ⟨e1, e2, e3, e4, e5, e6, e7, e8⟩ := I.env0
    exact ⟨by rw [same]; exact e1, e2, e3, e4, e5, e6, e7, e8⟩
  refine wpAny_call (codeAny_mono (F.run A X.stack st H ⟨us, []⟩ us vs Q E room env bound rel hyp) fun res st' got => ?_)
  cases res with
  | error er => exact hx pins σ H st er st' I got
  | ok flow =>
    cases flow with
    | ret u => exact I.after got
    | next => exact got.elim
    | brk => exact got.elim
    | cont => exact got.elim
/-- what is asked of an instance at a whose class at C has the method -/
def rLenO (C : Addr) (sp : Sp) (E : XK) : List V → Hp → VK → Prop := fun xs H Q => ∃ (a dx : Addr) (fs : List (Str × V)), xs = [.ref a] ∧ H a = some (.ins C dx fs) ∧ sp [.ref a] H (fun v H' => ∃ n : Int, v = .int n ∧ 0 ≤ n ∧ n < 2 ^ 63 ∧ Q (.int n) H') E
theorem call_lenO (F : FnOk X.prog X.w X.K X.mg X.base CX k f fd ps sp) (room : Room (k + 1) X.A) (hb : Binds X.K fd ps []) (hx : Passes CX X E) (hs : PySem.W.findIn X.K (.ref C) "__len__" = some (some (.ref f))) (hf : PySem.W.isFn X.K (.ref f) = true) :
    CallR X (.builtin "len") (rLenO C sp E) := by
  intro pins st σ H xs us Q I rel hyp
  obtain ⟨a, dx, fs, rfl, ha, hsp⟩ := hyp
  cases rel with
  | cons r0 r1 =>
    cases r1
    cases r0
    obtain ⟨mA, J, _⟩ := ins_get I.hok ha
    obtain ⟨od, J, _⟩ := J.look
    obtain ⟨m, hF⟩ := I.fr
    refine PySem.W.len_K hF I.ok.mod.kin J hs hf (wpAny_mono (run_sub (A := X.A.in1) (vs := [.ref a]) F room.in1 rfl hb hx I (.cons rfl .nil) hsp) (fun v st' got => ?_) fun _ _ z => z)
    obtain ⟨v0, H', I', rv, n, ev, h0, h1, hq⟩ := got
    subst ev
    obtain ⟨t, rfl⟩ := rv
    exact ⟨⟨h0, h1⟩, .int n, H', I'.tok _, ⟨_, rfl⟩, hq⟩
def rReprO (C : Addr) (sp : Sp) (E : XK) : List V → Hp → VK → Prop := fun xs H Q => ∃ (a dx : Addr) (fs : List (Str × V)), xs = [.ref a] ∧ H a = some (.ins C dx fs) ∧ sp [.ref a] H (fun v H' => ∃ z : Str, v = .str z ∧ Q (.str z) H') E
theorem call_reprO (F : FnOk X.prog X.w X.K X.mg X.base CX k f fd ps sp) (room : Room (k + 1) X.A) (hb : Binds X.K fd ps []) (hx : Passes CX X E) (hs : PySem.W.findIn X.K (.ref C) "__repr__" = some (some (.ref f))) (hf : PySem.W.isFn X.K (.ref f) = true) :
    CallR X (.builtin "repr") (rReprO C sp E) := by
  intro pins st σ H xs us Q I rel hyp
  obtain ⟨a, dx, fs, rfl, ha, hsp⟩ := hyp
  cases rel with
  | cons r0 r1 =>
    cases r1
    cases r0
    obtain ⟨mA, J, _⟩ := ins_get I.hok ha
    obtain ⟨od, J, _⟩ := J.look
    obtain ⟨m, hF⟩ := I.fr
    refine PySem.W.repr_K room.in1.units0 hF I.ok.mod.kin J hs hf (wpAny_mono (run_sub (A := X.A.in1) (vs := [.ref a]) F room.in1 rfl hb hx I (.cons rfl .nil) hsp) (fun v st' got => ?_) fun _ _ z => z)
    obtain ⟨v0, H', I', rv, z, ev, hq⟩ := got
    subst ev
    obtain ⟨t, rfl⟩ := rv
    exact ⟨.str z, H', I', ⟨_, rfl⟩, hq⟩
/-- a == b by the own __eq__ of a's class; b: an instance of it, or a tuple -/
def rEqO (K : PySem.W.Frag) (C : Addr) (sp : Sp) (E : XK) : R2 := fun x y H Q => ∃ (a b dx : Addr) (fs : List (Str × V)), x = .ref a ∧ y = .ref b ∧ H a = some (.ins C dx fs) ∧ ((∃ (dy : Addr) (gs : List (Str × V)), H b = some (.ins C dy gs)) ∨ (PySem.W.notFirst K C (.type "tuple") = true ∧ ∃ ys, SqT K H b ys)) ∧
  sp [.ref a, .ref b] H (fun v H' => ∃ c : Bool, v = .bl c ∧ Q (.bl c) H') E
theorem op_eqO (F : FnOk X.prog X.w X.K X.mg X.base CX k f fd ps sp) (room : Room k X.A) (hb : Binds X.K fd ps []) (hx : Passes CX X E) (hs : PySem.W.findIn X.K (.ref C) "__eq__" = some (some (.ref f))) (hf : PySem.W.isFn X.K (.ref f) = true) :
    OpR X (compareOp .Eq) (rEqO X.K C sp E) := by
  intro pins st σ H x y u v Q I ru rv hyp
  obtain ⟨a, b, dx, fs, rfl, rfl, ha, hB, hsp⟩ := hyp
  cases ru
  cases rv
  obtain ⟨mA, J, _⟩ := ins_get I.hok ha
  obtain ⟨od, J, _⟩ := J.look
  obtain ⟨m, hF⟩ := I.fr
  show wpAny (model X.prog X.w) X.A (richCompare .Eq (.ref a) (.ref b)) (EP X pins σ Q) X.xe st
  have go : wpAny (model X.prog X.w) X.A (call (.ref f) [.ref a, .ref b]) (PySem.W.CmpBack (EP X pins σ Q)) X.xe st := by
    refine wpAny_mono (run_sub (A := X.A) (vs := [.ref a, .ref b]) F room rfl hb hx I (.cons rfl (.cons rfl .nil)) hsp) (fun v st' got => ?_) fun _ _ z => z
    obtain ⟨v0, H', I', rv, c, ev, hq⟩ := got
    subst ev
    cases rv
    exact ⟨.bl c, H', I', rfl, hq⟩
  rcases hB with ⟨dy, gs, hB⟩ | ⟨nf, ys, hB⟩
  · obtain ⟨mB, J', _⟩ := ins_get I.hok hB
    obtain ⟨od', J', _⟩ := J'.look
    exact PySem.W.cmp_K (op := .Eq) (tb := .ref C) room.units0 hF I.ok.mod.kin J J'.type (by simp [PySem.W.notFirst]) hs hf go
  · obtain ⟨its, _, ⟨ob, hob, hcl, _⟩, _⟩ := I.tuple hB
    have look : PySem.W.Looks (model X.prog X.w) st.heap (typeOf (.ref b)) (.type "tuple") := fun A' Q' E' s' stay hq => wpAny_typeOf_ref (stay _ _ hob) (by rw [hcl]; exact hq)
    exact PySem.W.cmp_K (op := .Eq) (tb := .type "tuple") room.units0 hF I.ok.mod.kin J look nf hs hf go
/-- a != b by the own __eq__ of their class -/
def rNeO (C : Addr) (sp : Sp) (E : XK) : R2 := fun x y H Q => ∃ (a b dx dy : Addr) (fs gs : List (Str × V)), x = .ref a ∧ y = .ref b ∧ H a = some (.ins C dx fs) ∧ H b = some (.ins C dy gs) ∧ sp [.ref a, .ref b] H (fun v H' => ∃ c : Bool, v = .bl c ∧ Q (.bl (!c)) H') E
theorem op_neO (F : FnOk X.prog X.w X.K X.mg X.base CX k f fd ps sp) (room : Room (k + 1) X.A) (hb : Binds X.K fd ps []) (hx : Passes CX X E) (hs : PySem.W.findIn X.K (.ref C) "__eq__" = some (some (.ref f))) (hf : PySem.W.isFn X.K (.ref f) = true)
    (hn : PySem.W.findIn X.K (.ref C) "__ne__" = some (some (.builtin "object.__ne__"))) (hm : PySem.W.mroIn X.K C (.type "object") = some true) : OpR X (compareOp .NotEq) (rNeO C sp E) := by
  intro pins st σ H x y u v Q I ru rv hyp
  obtain ⟨a, b, dx, dy, fs, gs, rfl, rfl, ha, hB, hsp⟩ := hyp
  cases ru
  cases rv
  obtain ⟨mA, J, _⟩ := ins_get I.hok ha
  obtain ⟨od, J, _⟩ := J.look
  obtain ⟨mB, J', _⟩ := ins_get I.hok hB
  obtain ⟨od', J', _⟩ := J'.look
  have kin := I.kIn
  have S := PySem.F.cmp_object.ne
  have sub : PySem.W.Looks (model X.prog X.w) st.heap (isInstance (.ref a) (.type "object")) true := J.type.andThen (PySem.W.looks_mroIn kin hm)
  show wpAny (model X.prog X.w) X.A (richCompare .NotEq (.ref a) (.ref b)) (EP X pins σ Q) X.xe st
  unfold richCompare
  simp only [oneThing_ref]
  refine wpAny_holding (wpAny_bind (wpAny_cRoomFor room.units0 (wpAny_bind (J.type.here (wpAny_bind (J'.type.here ?_))))))
  rw [show (Value.ref C != Value.ref C) = false from by simp]
  simp only [Bool.false_eq_true, if_false, Bool.false_and]
  refine wpAny_bind (wpAny_pure ?_)
  simp only [Bool.false_eq_true, if_false]
  unfold tryCompare
  have body : wpAny (model X.prog X.w) X.A (call (.builtin "object.__ne__") [.ref a, .ref b]) (fun r st' => ∃ c : Bool, r = .bool c ∧ EP X pins σ Q (.bool c) st') X.xe st := by
    refine wpAny_call (codeAny_call_builtin S.plain PySem.F.cmpEntry_ne (PySem.W.check_slot PySem.F.cmpKind_ne PySem.F.cmpSplit_ne sub (PySem.F.cmpArgs_ne _ _) ?_))
    unfold Builtin.«object.__ne__»
    refine wpAny_bind (wpAny_of_eq (a := ((Value.ref a : Value), [Value.ref b])) (by first | rfl | (simp only [slotArgs]; rfl)) ?_)
    refine wpAny_bind (wpAny_cRoomFor room.in1.units0 ?_)
    refine wpAny_bind (PySem.W.ifBound_K kin J hs hf (wpAny_mono (run_sub (A := X.A.in1) (vs := [.ref a, .ref b]) F room.in1 rfl hb hx I (.cons rfl (.cons rfl .nil)) hsp) (fun r st' got => ?_) fun _ _ z => z))
    obtain ⟨v0, H', I', rv, c, ev, hq⟩ := got
    subst ev
    cases rv
    refine wpAny_bind (wpAny_truthy_bool ?_)
    exact wpAny_pure ⟨!c, rfl, .bl (!c), H', I', rfl, hq⟩
  refine wpAny_bind (wpAny_bind ?_)
  simp only [callSpecialIfBound?, bindSpecialIfBound?]
  refine wpAny_holding (wpAny_bind (wpAny_bind (wpAny_bind (J.type.here ((PySem.W.looks_findIn kin hn).here ?_)))))
  simp only [S.bind]
  refine wpAny_bind (wpAny_askSetting (wpAny_ite ?_))
  have last : ∀ {Q' : Option Value → Shared → Prop}, (∀ (c : Bool) st', EP X pins σ Q (.bool c) st' → Q' (some (.bool c)) st') → wpAny (model X.prog X.w) X.A (call (.builtin "object.__ne__") ([.ref a] ++ [.ref b]) >>= fun r => pure (some r)) Q' X.xe st := fun {Q'} hQ' =>
    wpAny_bind (wpAny_mono body (fun r st' ⟨c, er, hq⟩ => by subst er; exact wpAny_pure (hQ' c st' hq)) fun _ _ z => z)
  split
  · refine wpAny_bind (wpAny_pure (wpAny_pure (last fun c st' hq => ?_)))
    first | exact wpAny_pure (wpAny_pure hq) | exact wpAny_pure hq
  · refine wpAny_tryCatch (wpAny_bind (wpAny_pure (wpAny_pure (last fun c st' hq => ?_))))
    first | exact wpAny_pure (wpAny_pure hq) | exact wpAny_pure hq
end
end KW

set_option Elab.async false
set_option maxRecDepth 100000
/-! Rules that speak of no row: by the K that is written, for blocks. -/
namespace KW
open PySem PySem.Spec PyProof.Rows L2
section
variable {X : Cx} {K : PySem.W.Frag} {tg l e : Expr} {tl ta : TE} {f : Str} {pos : Pos}
theorem pi_listK (h : X.K = K) (hl : PE X l tl) : PI X tg l (iList K tl) := by
  subst h
  exact pi_list hl
theorem pi_tupK (h : X.K = K) (hl : PE X l tl) : PI X tg l (iTup K tl) := by
  subst h
  exact pi_tup hl
theorem pe_fldK (h : X.K = K) (he : PE X e ta) (hb : attributeBase e f X.env (eval e X.env) = eval e X.env) : PE X (.Attribute e f pos) (tFld K ta f) := by
  subst h
  exact pe_fld he hb
theorem op_notInK (h : X.K = K) : OpR X (compareOp .NotIn) (rIn K true) := by
  subst h
  exact op_notIn_seq
theorem op_inK (h : X.K = K) : OpR X (compareOp .In) (rIn K false) := by
  subst h
  exact op_in_seq
def rLenSq (K : PySem.W.Frag) : List V → Hp → VK → Prop := fun xs H Q => ∃ p ys, xs = [.ref p] ∧ (SqL K H p ys ∨ SqT K H p ys) ∧ Q (.int ys.length) H
theorem len_seqK (h : X.K = K) : CallR X (.builtin "len") (rLenSq K) := by
  subst h
  exact call_len_seq
theorem sl_tupK (h : X.K = K) : SlR X (rSlT K) := by
  subst h
  exact sl_tup
theorem sl_listK (h : X.K = K) : SlR X (rSlL K) := by
  subst h
  exact sl_list
theorem op_catTK (h : X.K = K) : OpR X (binaryOp .Add) (rCatT K) := by
  subst h
  exact op_catT
theorem cr_sumK (h : X.K = K) (hc : X.calm = true) : CallR X (.builtin "sum") (rSum K) := by
  subst h
  exact cr_sum hc
theorem cr_allK (h : X.K = K) (hc : X.calm = true) : CallR X (.builtin "all") (rAll K) := by
  subst h
  exact cr_all hc
theorem op_eqDK (h : X.K = K) (hu : X.A.units + 64 < cLine) : OpR X (compareOp .Eq) (rEqD K) := by
  subst h
  exact op_eqD hu
theorem op_neDK (h : X.K = K) (hu : X.A.units + 64 < cLine) : OpR X (compareOp .NotEq) (rNeD K) := by
  subst h
  exact op_neD hu
end
end KW

set_option Elab.async false
set_option maxRecDepth 100000
/-! How many ways lead from room to room; plain mathematics. -/
namespace KW
/-! ### sums over lists -/
def sm {α : Type} (xs : List α) (f : α → Nat) : Nat := (xs.map f).sum
theorem sm_nil {α : Type} (f : α → Nat) : sm [] f = 0 := rfl
theorem sm_cons {α : Type} (x : α) (xs : List α) (f : α → Nat) : sm (x :: xs) f = f x + sm xs f := by
  unfold sm
  rw [List.map_cons, List.sum_cons]
theorem sm_app {α : Type} (f : α → Nat) : ∀ xs ys : List α, sm (xs ++ ys) f = sm xs f + sm ys f
  | [], ys => by rw [List.nil_append, sm_nil, Nat.zero_add]
  | x :: xs, ys => by rw [List.cons_append, sm_cons, sm_cons, sm_app f xs ys, Nat.add_assoc]
theorem sm_congr {α : Type} {f g : α → Nat} : ∀ {xs : List α}, (∀ x ∈ xs, f x = g x) → sm xs f = sm xs g
  | [], _ => rfl
  | x :: xs, h => by rw [sm_cons, sm_cons, h x List.mem_cons_self, sm_congr fun y hy => h y (List.mem_cons_of_mem _ hy)]
theorem sm_zero {α : Type} {f : α → Nat} {xs : List α} (h : ∀ x ∈ xs, f x = 0) : sm xs f = 0 := by
  rw [sm_congr (g := fun _ => 0) h]
  induction xs with
  | nil => rfl
  | cons x xs ih => rw [sm_cons, ih fun y hy => h y (List.mem_cons_of_mem _ hy)]
theorem sm_add {α : Type} (f g : α → Nat) : ∀ xs : List α, sm xs (fun x => f x + g x) = sm xs f + sm xs g
  | [] => rfl
  | x :: xs => by
    rw [sm_cons, sm_cons, sm_cons, sm_add f g xs]
    omega
theorem sm_mul {α : Type} (c : Nat) (f : α → Nat) : ∀ xs : List α, sm xs (fun x => c * f x) = c * sm xs f
  | [] => by simp [sm_nil]
  | x :: xs => by rw [sm_cons, sm_cons, sm_mul c f xs, Nat.mul_add]
theorem sm_swap {α β : Type} (f : α → β → Nat) (ys : List β) : ∀ xs : List α, sm xs (fun x => sm ys (f x)) = sm ys fun y => sm xs fun x => f x y
  | [] => by
    rw [sm_nil]
    exact (sm_zero fun _ _ => rfl).symm
  | x :: xs => by
    rw [sm_cons, sm_swap f ys xs, ← sm_add]
    exact sm_congr fun y _ => (sm_cons x xs fun x => f x y).symm
theorem sm_map {α β : Type} (g : α → β) (f : β → Nat) (xs : List α) : sm (xs.map g) f = sm xs fun x => f (g x) := by
  unfold sm
  rw [List.map_map]
  rfl
theorem sm_filter {α : Type} (p : α → Bool) (f : α → Nat) : ∀ xs : List α, sm (xs.filter p) f = sm xs fun x => if p x = true then f x else 0
  | [] => rfl
  | x :: xs => by
    rw [List.filter_cons, sm_cons, ← sm_filter p f xs]
    split
    · rw [sm_cons]
    · rw [Nat.zero_add]
theorem sm_flat {α β : Type} (g : α → List β) (f : β → Nat) : ∀ xs : List α, sm (xs.flatMap g) f = sm xs fun x => sm (g x) f
  | [] => rfl
  | x :: xs => by rw [List.flatMap_cons, sm_app, sm_cons, sm_flat g f xs]
theorem sm_le {α : Type} {f : α → Nat} {c : Nat} : ∀ {xs : List α}, (∀ x ∈ xs, f x ≤ c) → sm xs f ≤ xs.length * c
  | [], _ => by simp [sm_nil]
  | x :: xs, h => by
    have h1 := h x List.mem_cons_self
    have h2 := sm_le (f := f) (c := c) fun y hy => h y (List.mem_cons_of_mem _ hy)
    rw [sm_cons, List.length_cons, Nat.add_mul]
    omega
/-- the one that is i -/
theorem sm_one (f : Nat → Nat) {i : Nat} : ∀ {n : Nat}, sm (List.range n) (fun j => if j = i then f j else 0) = if i < n then f i else 0
  | 0 => by
    rw [if_neg (Nat.not_lt_zero i)]
    rfl
  | n + 1 => by
    rw [List.range_succ, sm_app, sm_one f (n := n), sm_cons, sm_nil]
    by_cases h : n = i
    · subst h
      rw [if_neg (Nat.lt_irrefl n), if_pos rfl, if_pos (Nat.lt_succ_self n)]
      omega
    · rw [if_neg h]
      by_cases h2 : i < n
      · rw [if_pos h2, if_pos (by omega)]
        rfl
      · rw [if_neg h2, if_neg (by omega)]
/-! ### ways -/
/-- a count for each room, one arrow on -/
def nxt (ps : List (Nat × Nat)) (c : Nat → Nat) (j : Nat) : Nat := sm ps fun p => if p.2 = j then c p.1 else 0
def ways (ps : List (Nat × Nat)) : Nat → Nat → Nat → Nat
  | 0, i => fun j => if j = i then 1 else 0
  | k + 1, i => nxt ps (ways ps k i)
theorem ways_succ (ps : List (Nat × Nat)) (k i j : Nat) : ways ps (k + 1) i j = sm ps fun p => if p.2 = j then ways ps k i p.1 else 0 := rfl
/-- ways of a + b arrows, by the room behind a -/
theorem ways_cut {n : Nat} {ps : List (Nat × Nat)} (h : ∀ p ∈ ps, p.1 < n ∧ p.2 < n) (a i : Nat) : ∀ b l : Nat, l < n → sm (List.range n) (fun j => ways ps a i j * ways ps b j l) = ways ps (a + b) i l
  | 0, l, hl => by
    have e : sm (List.range n) (fun j => ways ps a i j * ways ps 0 j l) = sm (List.range n) fun j => if j = l then ways ps a i j else 0 := sm_congr fun j _ => by
      show ways ps a i j * (if l = j then 1 else 0) = _
      by_cases z : l = j
      · rw [if_pos z, if_pos z.symm, Nat.mul_one]
      · rw [if_neg z, if_neg (fun y => z y.symm), Nat.mul_zero]
    rw [e, sm_one, if_pos hl, Nat.add_zero]
  | b + 1, l, hl => by
    rw [← Nat.add_assoc, ways_succ]
    have e : sm (List.range n) (fun j => ways ps a i j * ways ps (b + 1) j l) = sm (List.range n) fun j => sm ps fun p => if p.2 = l then ways ps a i j * ways ps b j p.1 else 0 := sm_congr fun j _ => by
      rw [ways_succ, ← sm_mul]
      refine sm_congr fun p _ => ?_
      split
      · rfl
      · rw [Nat.mul_zero]
    rw [e, sm_swap]
    refine sm_congr fun p hp => ?_
    by_cases z : p.2 = l
    · rw [if_pos z, ← ways_cut h a i b p.1 (h p hp).1]
      exact sm_congr fun j _ => by rw [if_pos z]
    · rw [if_neg z]
      exact sm_zero fun j _ => by rw [if_neg z]
/-- how many rounds there are -/
def rnd (n : Nat) (ps : List (Nat × Nat)) (k : Nat) : Nat := sm (List.range n) fun i => ways ps k i i
/-- a round is a row of a arrows and one of b back -/
theorem rnd_cut {n : Nat} {ps : List (Nat × Nat)} (h : ∀ p ∈ ps, p.1 < n ∧ p.2 < n) (a b : Nat) : sm (List.range n) (fun i => sm (List.range n) fun j => ways ps a i j * ways ps b j i) = rnd n ps (a + b) :=
  sm_congr fun i hi => ways_cut h a i b i (List.mem_range.mp hi)
theorem ways_le {ps : List (Nat × Nat)} : ∀ k i j : Nat, ways ps k i j ≤ ps.length ^ k
  | 0, i, j => by
    show (if j = i then 1 else 0) ≤ 1
    split <;> omega
  | k + 1, i, j => by
    rw [ways_succ, Nat.pow_succ, Nat.mul_comm]
    refine sm_le fun p _ => ?_
    split
    · exact ways_le k i p.1
    · exact Nat.zero_le _
/-! ### rows -/
/-- the arrows behind arrow a -/
def onOf (ps : List (Nat × Nat)) (a : Nat) : List Nat := idxs (ps.map (·.1)) (ps.getD a (0, 0)).2 0
def rowsF (ps : List (Nat × Nat)) : Nat → List (List Nat)
  | 0 => (List.range ps.length).map fun a => [a]
  | k + 1 => (rowsF ps k).flatMap fun r => (onOf ps (r.getLastD 0)).map fun a => r ++ [a]
/-- the numbers of a list with their places, summed -/
theorem sm_idxs {α : Type} (d : α) (f : α → Nat) (key : α → Nat) (r : Nat) : ∀ (ps : List α) (pre : List α), sm (idxs (ps.map key) r pre.length) (fun a => f ((pre ++ ps).getD a d)) = sm ps fun p => if key p = r then f p else 0
  | [], pre => rfl
  | p :: ps, pre => by
    have ih := sm_idxs d f key r ps (pre ++ [p])
    rw [List.append_assoc, List.length_append] at ih
    rw [sm_cons, ← ih, List.map_cons]
    show sm (if key p = r then pre.length :: idxs (ps.map key) r (pre.length + 1) else idxs (ps.map key) r (pre.length + 1)) _ = _
    have e : (pre ++ p :: ps).getD pre.length d = p := by simp [List.getD_eq_getElem?_getD]
    split
    · rw [sm_cons, e]
      rfl
    · rw [Nat.zero_add]
      rfl
theorem sm_idxs0 {α : Type} (d : α) (f : α → Nat) (key : α → Nat) (r : Nat) (ps : List α) : sm (idxs (ps.map key) r 0) (fun a => f (ps.getD a d)) = sm ps fun p => if key p = r then f p else 0 := sm_idxs d f key r ps []
/-- where a row begins and ends -/
def bgn (ps : List (Nat × Nat)) (r : List Nat) : Nat := (ps.getD (r.headD 0) (0, 0)).1
def end_ (ps : List (Nat × Nat)) (r : List Nat) : Nat := (ps.getD (r.getLastD 0) (0, 0)).2
theorem rowsF_ne {ps : List (Nat × Nat)} : ∀ {k : Nat} {r : List Nat}, r ∈ rowsF ps k → r ≠ []
  | 0, r, h => by
    obtain ⟨a, _, e⟩ := List.mem_map.mp h
    rw [← e]
    exact List.cons_ne_nil _ _
  | k + 1, r, h => by
    obtain ⟨q, _, h2⟩ := List.mem_flatMap.mp h
    obtain ⟨a, _, e⟩ := List.mem_map.mp h2
    rw [← e]
    simp
theorem bgn_app {ps : List (Nat × Nat)} {r : List Nat} (h : r ≠ []) (a : Nat) : bgn ps (r ++ [a]) = bgn ps r := by
  cases r with
  | nil => exact absurd rfl h
  | cons x xs => rfl
theorem end_app {ps : List (Nat × Nat)} {r : List Nat} (a : Nat) : end_ ps (r ++ [a]) = (ps.getD a (0, 0)).2 := by
  unfold end_
  rw [List.getLastD_eq_getLast?, List.getLast?_append]
  rfl
theorem sm_places {α : Type} (d : α) (f : α → Nat) (ps : List α) : sm (List.range ps.length) (fun a => f (ps.getD a d)) = sm ps f := by
  have go : ∀ (qs pre : List α), sm (List.range' pre.length qs.length) (fun a => f ((pre ++ qs).getD a d)) = sm qs f := by
    intro qs
    induction qs with
    | nil => intro pre; rfl
    | cons q qs ih =>
      intro pre
      have z := ih (pre ++ [q])
      rw [List.append_assoc, List.length_append] at z
      rw [List.length_cons, List.range'_succ, sm_cons, sm_cons, ← z]
      have e : (pre ++ q :: qs).getD pre.length d = q := by simp [List.getD_eq_getElem?_getD]
      rw [e]
      rfl
  have z := go ps []
  rw [List.range_eq_range']
  exact z
/-- rows of k + 1 arrows from i to j -/
theorem rowsF_ways (ps : List (Nat × Nat)) (i : Nat) : ∀ k j : Nat, sm (rowsF ps k) (fun r => if bgn ps r = i then (if end_ ps r = j then 1 else 0) else 0) = ways ps (k + 1) i j
  | 0, j => by
    show sm ((List.range ps.length).map fun a => [a]) _ = _
    rw [sm_map, ways_succ]
    have e := sm_places (0, 0) (fun p : Nat × Nat => if p.1 = i then (if p.2 = j then 1 else 0) else 0) ps
    refine Eq.trans e (sm_congr fun p _ => ?_)
    show (if p.1 = i then (if p.2 = j then 1 else 0) else 0) = if p.2 = j then (if p.1 = i then 1 else 0) else 0
    split <;> split <;> rfl
  | k + 1, j => by
    show sm ((rowsF ps k).flatMap fun r => (onOf ps (r.getLastD 0)).map fun a => r ++ [a]) _ = _
    rw [sm_flat, ways_succ]
    have e1 : sm (rowsF ps k) (fun r => sm ((onOf ps (r.getLastD 0)).map fun a => r ++ [a]) fun r => if bgn ps r = i then (if end_ ps r = j then 1 else 0) else 0) = sm (rowsF ps k) fun r => sm ps fun p => if p.2 = j then (if bgn ps r = i then (if end_ ps r = p.1 then 1 else 0) else 0) else 0 := sm_congr fun r hr => by
      rw [sm_map]
      have e2 : sm (onOf ps (r.getLastD 0)) (fun a => if bgn ps (r ++ [a]) = i then (if end_ ps (r ++ [a]) = j then 1 else 0) else 0) = sm (onOf ps (r.getLastD 0)) fun a => (fun p : Nat × Nat => if bgn ps r = i then (if p.2 = j then 1 else 0) else 0) (ps.getD a (0, 0)) := sm_congr fun a _ => by
        rw [bgn_app (rowsF_ne hr), end_app]
      rw [e2]
      unfold onOf
      rw [sm_idxs0 (0, 0) (fun p : Nat × Nat => if bgn ps r = i then (if p.2 = j then 1 else 0) else 0) (fun p : Nat × Nat => p.1)]
      refine sm_congr fun p _ => ?_
      show (if p.1 = end_ ps r then (if bgn ps r = i then (if p.2 = j then 1 else 0) else 0) else 0) = _
      by_cases z : end_ ps r = p.1
      · by_cases y : p.2 = j <;> by_cases x : bgn ps r = i <;> simp [z, y, x]
      · have z' : ¬ p.1 = end_ ps r := fun h => z h.symm
        by_cases y : p.2 = j <;> by_cases x : bgn ps r = i <;> simp [z, z', y, x]
    rw [e1, sm_swap]
    refine sm_congr fun p _ => ?_
    by_cases y : p.2 = j
    · rw [if_pos y, ← rowsF_ways ps i k p.1]
      exact sm_congr fun r _ => by rw [if_pos y]
    · rw [if_neg y]
      exact sm_zero fun r _ => by rw [if_neg y]
theorem sm_count {α : Type} (p : α → Bool) : ∀ xs : List α, (xs.filter p).length = sm xs fun x => if p x = true then 1 else 0
  | [] => rfl
  | x :: xs => by
    rw [List.filter_cons, sm_cons, ← sm_count p xs]
    split
    · rw [List.length_cons]
      omega
    · omega
/-- the rows that come round -/
theorem rowsF_round {n : Nat} {ps : List (Nat × Nat)} (h : ∀ p ∈ ps, p.1 < n ∧ p.2 < n) (hn : 1 ≤ n) (k : Nat) : ((rowsF ps k).filter fun r => decide (end_ ps r = bgn ps r)).length = rnd n ps (k + 1) := by
  rw [sm_count]
  unfold rnd
  have e : sm (rowsF ps k) (fun r => if decide (end_ ps r = bgn ps r) = true then 1 else 0) = sm (rowsF ps k) fun r => sm (List.range n) fun i => if bgn ps r = i then (if end_ ps r = i then 1 else 0) else 0 := sm_congr fun r _ => by
    have hb : bgn ps r < n := by
      unfold bgn
      rw [List.getD_eq_getElem?_getD]
      cases q : ps[r.headD 0]? with
      | none => exact hn
      | some p => exact (h p (List.mem_of_getElem? q)).1
    have e3 : sm (List.range n) (fun i => if bgn ps r = i then (if end_ ps r = i then 1 else 0) else 0) = sm (List.range n) fun i => if i = bgn ps r then (fun i => if end_ ps r = i then 1 else 0) i else 0 := sm_congr fun i _ => by
      by_cases z : bgn ps r = i
      · rw [if_pos z, if_pos z.symm]
      · rw [if_neg z, if_neg (fun y => z y.symm)]
    rw [e3, sm_one, if_pos hb]
    by_cases z : end_ ps r = bgn ps r
    · rw [if_pos (decide_eq_true z), if_pos z]
    · rw [if_neg (by simp [z]), if_neg z]
  rw [e, sm_swap]
  exact sm_congr fun i _ => rowsF_ways ps i k i
end KW

set_option Elab.async false
set_option maxRecDepth 100000
/-! Walks that come round: their beats, their least form; plain mathematics. -/
namespace KW
/-- the arrow of a beat -/
def beat (ah rg : List Nat) (i : Nat) : Nat := if i < ah.length then ah.getD i 0 else rg.getD ((i - ah.length) % rg.length) 0
/-- p is a period from N on -/
def Per (s : Nat → Nat) (N p : Nat) : Prop := ∀ i, N ≤ i → s (i + p) = s i
theorem Per.mono {s : Nat → Nat} {N M p : Nat} (h : Per s N p) (l : N ≤ M) : Per s M p := fun i hi => h i (by omega)
theorem Per.sub {s : Nat → Nat} {N p q : Nat} (hp : Per s N p) (hq : Per s N q) (l : q ≤ p) : Per s N (p - q) := fun i hi => by
  have h1 := hq (i + (p - q)) (by omega)
  have h2 := hp i hi
  rw [show i + (p - q) + q = i + p by omega] at h1
  rw [← h1, h2]
theorem Per.mul {s : Nat → Nat} {N p : Nat} (h : Per s N p) : ∀ k, Per s N (p * k)
  | 0 => fun _ _ => rfl
  | k + 1 => fun i hi => by
    rw [Nat.mul_succ, ← Nat.add_assoc, h (i + p * k) (by omega)]
    exact Per.mul h k i hi
theorem Per.mod {s : Nat → Nat} {N p q : Nat} (hp : Per s N p) (hq : Per s N q) : Per s N (p % q) := by
  have e : p % q = p - q * (p / q) := by
    have := Nat.div_add_mod p q
    omega
  rw [e]
  exact hp.sub (hq.mul _) (Nat.mul_div_le p q)
theorem Per.gcd {s : Nat → Nat} {N : Nat} (p q : Nat) : Per s N p → Per s N q → Per s N (Nat.gcd p q) := by
  induction p, q using Nat.gcd.induction with
  | H0 q => exact fun _ h => by rw [Nat.gcd_zero_left]; exact h
  | H1 p q hp ih =>
    intro h1 h2
    rw [Nat.gcd_rec]
    exact ih (h2.mod h1) h1
theorem beat_per (ah rg : List Nat) : Per (beat ah rg) ah.length rg.length := fun i hi => by
  unfold beat
  rw [if_neg (by omega), if_neg (by omega), show i + rg.length - ah.length = (i - ah.length) + rg.length by omega, Nat.add_mod_right]
/-- in its least form: no shorter ring, no arrow ahead that the ring tells -/
structure Red (ah rg : List Nat) : Prop where
  ne : rg ≠ []
  prim : ∀ g, 0 < g → g < rg.length → rg.length % g = 0 → ∃ i, i < rg.length ∧ rg.getD ((i + g) % rg.length) 0 ≠ rg.getD i 0
  last : ah ≠ [] → ah.getLastD 0 ≠ rg.getLastD 0
theorem getLastD_at {l : List Nat} (h : l ≠ []) : l.getLastD 0 = l.getD (l.length - 1) 0 := by
  rw [List.getLastD_eq_getLast?, List.getLast?_eq_getElem?, List.getD_eq_getElem?_getD]
theorem beat_ring {ah rg : List Nat} (h : rg ≠ []) (i k : Nat) (hi : i < rg.length) : beat ah rg (ah.length + i + rg.length * k) = rg.getD i 0 := by
  unfold beat
  rw [if_neg (by omega), show ah.length + i + rg.length * k - ah.length = i + rg.length * k by omega, Nat.add_mul_mod_self_left, Nat.mod_eq_of_lt hi]
/-- two rings of one walk are as long -/
theorem red_dvd {a r a' r' : List Nat} (h : Red a r) (h' : r' ≠ []) (e : ∀ i, beat a r i = beat a' r' i) : r'.length % r.length = 0 := by
  have hp : 0 < r.length := List.length_pos_iff.mpr h.ne
  have hp' : 0 < r'.length := List.length_pos_iff.mpr h'
  have s1 : Per (beat a r) (a.length + a'.length) r.length := (beat_per a r).mono (by omega)
  have s2 : Per (beat a r) (a.length + a'.length) r'.length := by
    have z := (beat_per a' r').mono (M := a.length + a'.length) (by omega)
    intro i hi
    rw [e, e]
    exact z i hi
  have sg := Per.gcd _ _ s1 s2
  have gp : 0 < Nat.gcd r.length r'.length := Nat.gcd_pos_of_pos_left _ hp
  have gl : Nat.gcd r.length r'.length ≤ r.length := Nat.gcd_le_left _ hp
  have gd : r.length % Nat.gcd r.length r'.length = 0 := Nat.mod_eq_zero_of_dvd (Nat.gcd_dvd_left _ _)
  by_cases q : Nat.gcd r.length r'.length < r.length
  · obtain ⟨i, hi, no⟩ := h.prim _ gp q gd
    exfalso
    apply no
    have big : a.length + a'.length ≤ a.length + i + r.length * (a'.length) := by
      have : a'.length ≤ r.length * a'.length := Nat.le_mul_of_pos_left _ hp
      omega
    have z := sg _ big
    rw [beat_ring h.ne i _ hi] at z
    rw [← z]
    unfold beat
    rw [if_neg (by omega)]
    congr 1
    rw [show a.length + i + r.length * a'.length + Nat.gcd r.length r'.length - a.length = (i + Nat.gcd r.length r'.length) + r.length * a'.length by omega, Nat.add_mul_mod_self_left]
  · have eg : Nat.gcd r.length r'.length = r.length := by omega
    have d : r.length ∣ r'.length := by
      have := Nat.gcd_dvd_right r.length r'.length
      rw [eg] at this
      exact this
    exact Nat.mod_eq_zero_of_dvd d
theorem red_ahead {a r a' r' : List Nat} (h' : Red a' r') (hr : r ≠ []) (e : ∀ i, beat a r i = beat a' r' i) (hl : r'.length = r.length) : a'.length ≤ a.length := by
  by_cases q : a'.length ≤ a.length
  · exact q
  exfalso
  have hp : 0 < r'.length := List.length_pos_iff.mpr h'.ne
  have an : a' ≠ [] := fun z => by
    rw [z] at q
    exact q (Nat.zero_le _)
  apply h'.last an
  have z := beat_per a r (a'.length - 1) (by omega)
  rw [e, e, ← hl] at z
  have e1 : beat a' r' (a'.length - 1) = a'.getLastD 0 := by
    rw [getLastD_at an]
    unfold beat
    rw [if_pos (by have := List.length_pos_iff.mpr an; omega)]
  have e2 : beat a' r' (a'.length - 1 + r'.length) = r'.getLastD 0 := by
    rw [getLastD_at h'.ne]
    unfold beat
    have := List.length_pos_iff.mpr an
    rw [if_neg (by omega), show a'.length - 1 + r'.length - a'.length = r'.length - 1 by omega, Nat.mod_eq_of_lt (by omega)]
  rw [e1, e2] at z
  exact z.symm
/-- the least form is the only one -/
theorem red_one {a r a' r' : List Nat} (h : Red a r) (h' : Red a' r') (e : ∀ i, beat a r i = beat a' r' i) : a = a' ∧ r = r' := by
  have hp : 0 < r.length := List.length_pos_iff.mpr h.ne
  have hp' : 0 < r'.length := List.length_pos_iff.mpr h'.ne
  have d1 := red_dvd h h'.ne e
  have d2 := red_dvd h' h.ne fun i => (e i).symm
  have hl : r.length = r'.length := Nat.dvd_antisymm (Nat.dvd_of_mod_eq_zero d1) (Nat.dvd_of_mod_eq_zero d2)
  have l1 := red_ahead h' h.ne e hl.symm
  have l2 := red_ahead h h'.ne (fun i => (e i).symm) hl
  have la : a.length = a'.length := by omega
  refine ⟨List.ext_getElem la fun i h1 h2 => ?_, List.ext_getElem hl fun i h1 h2 => ?_⟩
  · have z := e i
    unfold beat at z
    rw [if_pos h1, if_pos h2, List.getD_eq_getElem?_getD, List.getD_eq_getElem?_getD, List.getElem?_eq_getElem h1, List.getElem?_eq_getElem h2] at z
    exact z
  · have z := e (a.length + i + r.length * 0)
    rw [beat_ring h.ne i 0 h1] at z
    rw [la, hl, beat_ring h'.ne i 0 h2, List.getD_eq_getElem?_getD, List.getD_eq_getElem?_getD, List.getElem?_eq_getElem h1, List.getElem?_eq_getElem h2] at z
    exact z
/-! ### the shortest ring -/
/-- the first g of the ring, again and again, are the ring -/
def perOk (rg : List Nat) (g : Nat) : Prop := rg.length % g = 0 ∧ ∀ i, i < rg.length → rg.getD (i % g) 0 = rg.getD i 0
theorem take_getD {rg : List Nat} {g i : Nat} (h : i < g) : (rg.take g).getD i 0 = rg.getD i 0 := by
  rw [List.getD_eq_getElem?_getD, List.getD_eq_getElem?_getD, List.getElem?_take, if_pos h]
theorem mod_mod_of {a b g : Nat} (h : b % g = 0) : a % b % g = a % g := Nat.mod_mod_of_dvd a (Nat.dvd_of_mod_eq_zero h)
/-- a part of the ring tells the same walk -/
theorem beat_part {ah rg : List Nat} {g : Nat} (hg : 0 < g) (hl : g ≤ rg.length) (h : perOk rg g) (i : Nat) : beat ah (rg.take g) i = beat ah rg i := by
  unfold beat
  split
  · rfl
  · have lt : (rg.take g).length = g := by rw [List.length_take]; omega
    rw [lt, take_getD (Nat.mod_lt _ hg), ← h.2 _ (Nat.mod_lt (i - ah.length) (show 0 < rg.length by omega)), mod_mod_of h.1]
/-- the least such part is no longer a repetition -/
theorem part_prim {rg : List Nat} {g : Nat} (hg : 0 < g) (hl : g ≤ rg.length) (h : perOk rg g) (least : ∀ d, 0 < d → d < g → ¬ perOk rg d) : ∀ d, 0 < d → d < (rg.take g).length → (rg.take g).length % d = 0 → ∃ i, i < (rg.take g).length ∧ (rg.take g).getD ((i + d) % (rg.take g).length) 0 ≠ (rg.take g).getD i 0 := by
  intro d d0 d1 dd
  have lt : (rg.take g).length = g := by rw [List.length_take]; omega
  rw [lt] at d1 dd ⊢
  by_cases q : ∃ i, i < g ∧ (rg.take g).getD ((i + d) % g) 0 ≠ (rg.take g).getD i 0
  · exact q
  exfalso
  have all : ∀ i, i < g → rg.getD ((i + d) % g) 0 = rg.getD i 0 := fun i hi => by
    by_cases z : (rg.take g).getD ((i + d) % g) 0 = (rg.take g).getD i 0
    · rw [take_getD (Nat.mod_lt _ hg), take_getD hi] at z
      exact z
    · exact absurd ⟨i, hi, z⟩ q
  -- by d steps back
  have down : ∀ k i, i + d * k < g → rg.getD (i + d * k) 0 = rg.getD i 0 := by
    intro k
    induction k with
    | zero => intro i _; rfl
    | succ k ih =>
      intro i hi
      rw [Nat.mul_succ] at hi ⊢
      have z := all (i + d * k) (by omega)
      rw [Nat.mod_eq_of_lt (by omega)] at z
      rw [← Nat.add_assoc, z]
      exact ih i (by omega)
  refine least d d0 d1 ⟨?_, fun i hi => ?_⟩
  · exact Nat.mod_eq_zero_of_dvd (Nat.dvd_trans (Nat.dvd_of_mod_eq_zero dd) (Nat.dvd_of_mod_eq_zero h.1))
  · have e1 : i % g % d = i % d := mod_mod_of dd
    have hm : i % g < g := Nat.mod_lt _ hg
    have z := down (i % g / d) (i % g % d) (by
      have := Nat.mod_add_div (i % g) d
      omega)
    rw [Nat.mod_add_div, e1] at z
    rw [← z, h.2 i hi]
theorem perOk_self (rg : List Nat) : perOk rg rg.length := ⟨Nat.mod_self _, fun i hi => by rw [Nat.mod_eq_of_lt hi]⟩
/-! ### fewer arrows ahead -/
/-- the ring that begins one arrow earlier -/
def back1 (rg : List Nat) : List Nat := rg.getLastD 0 :: rg.dropLast
theorem back1_len {rg : List Nat} (h : rg ≠ []) : (back1 rg).length = rg.length := by
  unfold back1
  rw [List.length_cons, List.length_dropLast]
  have := List.length_pos_iff.mpr h
  omega
theorem back1_at {rg : List Nat} (h : rg ≠ []) {i : Nat} (hi : i < rg.length) : (back1 rg).getD ((i + 1) % rg.length) 0 = rg.getD i 0 := by
  have hp := List.length_pos_iff.mpr h
  by_cases e : i + 1 = rg.length
  · rw [e, Nat.mod_self]
    show rg.getLastD 0 = _
    rw [getLastD_at h, show rg.length - 1 = i by omega]
  · rw [Nat.mod_eq_of_lt (by omega)]
    show (rg.dropLast).getD i 0 = _
    rw [List.getD_eq_getElem?_getD, List.getD_eq_getElem?_getD, List.getElem?_dropLast, if_pos (by omega)]
/-- an arrow ahead that the ring tells is left out -/
theorem beat_back {ah rg : List Nat} (h : rg ≠ []) (i : Nat) : beat ah (back1 rg) i = beat (ah ++ [rg.getLastD 0]) rg i := by
  have hp := List.length_pos_iff.mpr h
  unfold beat
  rw [List.length_append, back1_len h]
  show _ = if i < ah.length + 1 then _ else _
  by_cases q : i < ah.length
  · rw [if_pos q, if_pos (by omega), List.getD_eq_getElem?_getD, List.getD_eq_getElem?_getD, List.getElem?_append_left q]
  · rw [if_neg q]
    by_cases e : i = ah.length
    · rw [if_pos (by omega), e, Nat.sub_self, Nat.zero_mod]
      show rg.getLastD 0 = _
      rw [List.getD_eq_getElem?_getD, List.getElem?_append_right (Nat.le_refl _), Nat.sub_self]
      rfl
    · rw [if_neg (by omega)]
      have z := back1_at h (i := (i - (ah.length + 1)) % rg.length) (Nat.mod_lt _ hp)
      refine Eq.trans ?_ z
      congr 1
      rw [show i - ah.length = (i - (ah.length + 1)) + 1 by omega, Nat.mod_add_mod]
end KW

set_option Elab.async false
set_option maxRecDepth 100000
/-! Rings turned, walks that follow; plain mathematics. -/
namespace KW
/-- the ring from place c on -/
def rot (l : List Nat) (c : Nat) : List Nat := l.drop c ++ l.take c
theorem rot_len {l : List Nat} {c : Nat} (h : c ≤ l.length) : (rot l c).length = l.length := by
  unfold rot
  rw [List.length_append, List.length_drop, List.length_take]
  omega
theorem rot_getD {l : List Nat} {c i : Nat} (hc : c ≤ l.length) (hi : i < l.length) : (rot l c).getD i 0 = l.getD ((i + c) % l.length) 0 := by
  unfold rot
  rw [List.getD_eq_getElem?_getD, List.getD_eq_getElem?_getD]
  by_cases q : i < l.length - c
  · rw [List.getElem?_append_left (by rw [List.length_drop]; exact q), List.getElem?_drop, Nat.mod_eq_of_lt (by omega), Nat.add_comm]
  · rw [List.getElem?_append_right (by rw [List.length_drop]; omega), List.length_drop, List.getElem?_take, if_pos (by omega), Nat.mod_eq_sub_mod (by omega), Nat.mod_eq_of_lt (by omega)]
    congr 2
    omega
theorem ext_getD {l m : List Nat} (hl : l.length = m.length) (h : ∀ i, i < l.length → l.getD i 0 = m.getD i 0) : l = m := by
  refine List.ext_getElem hl fun i h1 h2 => ?_
  have z := h i h1
  rw [List.getD_eq_getElem?_getD, List.getD_eq_getElem?_getD, List.getElem?_eq_getElem h1, List.getElem?_eq_getElem h2] at z
  exact z
theorem rot_ne {l : List Nat} {c : Nat} (hc : c ≤ l.length) (h : l ≠ []) : rot l c ≠ [] := fun z => by
  have := rot_len hc
  rw [z] at this
  exact h (List.length_eq_zero_iff.mp this.symm)
theorem rot_last {l : List Nat} {c : Nat} (hc : c < l.length) : (rot l c).getLastD 0 = l.getD ((c + l.length - 1) % l.length) 0 := by
  have hn : l ≠ [] := fun z => by rw [z] at hc; exact absurd hc (Nat.not_lt_zero _)
  rw [getLastD_at (rot_ne (by omega) hn), rot_len (by omega), rot_getD (by omega) (by omega), show l.length - 1 + c = c + l.length - 1 by omega]
theorem back1_getD {r : List Nat} (h : r ≠ []) {i : Nat} (hi : i < r.length) : (back1 r).getD i 0 = r.getD ((i + r.length - 1) % r.length) 0 := by
  have hp := List.length_pos_iff.mpr h
  have z := back1_at h (i := (i + r.length - 1) % r.length) (Nat.mod_lt _ hp)
  rw [← z]
  congr 1
  rw [Nat.mod_add_mod, show i + r.length - 1 + 1 = i + r.length by omega, Nat.add_mod_right, Nat.mod_eq_of_lt hi]
theorem back1_rot {l : List Nat} {c : Nat} (hc : c < l.length) : back1 (rot l c) = rot l ((c + l.length - 1) % l.length) := by
  have hn : l ≠ [] := fun z => by rw [z] at hc; exact absurd hc (Nat.not_lt_zero _)
  have hr := rot_ne (c := c) (by omega) hn
  have hl := rot_len (l := l) (c := c) (by omega)
  have hp : 0 < l.length := by omega
  have hm := Nat.mod_lt (c + l.length - 1) hp
  refine ext_getD (by rw [back1_len hr, hl, rot_len (by omega)]) fun i hi => ?_
  rw [back1_len hr, hl] at hi
  rw [back1_getD hr (by omega), hl, rot_getD (by omega) (Nat.mod_lt _ hp), rot_getD (by omega) hi, Nat.mod_add_mod, Nat.add_mod_mod]
  congr 2
  omega
/-- no shorter ring -/
def Prim (rg : List Nat) : Prop := ∀ g, 0 < g → g < rg.length → rg.length % g = 0 → ∃ i, i < rg.length ∧ rg.getD ((i + g) % rg.length) 0 ≠ rg.getD i 0
theorem rot_prim {l : List Nat} {c : Nat} (hc : c < l.length) (h : Prim l) : Prim (rot l c) := by
  intro g g0 g1 gd
  have hl := rot_len (l := l) (c := c) (by omega)
  rw [hl] at g1 gd ⊢
  have hp : 0 < l.length := by omega
  obtain ⟨i, hi, ne⟩ := h g g0 g1 gd
  refine ⟨(i + l.length - c) % l.length, Nat.mod_lt _ hp, fun z => ne ?_⟩
  rw [rot_getD (by omega) (Nat.mod_lt _ hp), rot_getD (by omega) (Nat.mod_lt _ hp)] at z
  have e1 : (((i + l.length - c) % l.length + g) % l.length + c) % l.length = (i + g) % l.length := by
    rw [Nat.mod_add_mod, Nat.add_assoc, Nat.mod_add_mod, show i + l.length - c + (g + c) = i + g + l.length by omega, Nat.add_mod_right]
  have e2 : ((i + l.length - c) % l.length + c) % l.length = i := by
    rw [Nat.mod_add_mod, show i + l.length - c + c = i + l.length by omega, Nat.add_mod_right, Nat.mod_eq_of_lt hi]
  rw [e1, e2] at z
  exact z
theorem rot_zero (l : List Nat) : rot l 0 = l := by
  unfold rot
  rw [List.drop_zero, List.take_zero, List.append_nil]
/-! ### repeated parts -/
theorem rep_get (xs : List Nat) (h : xs ≠ []) : ∀ (k i : Nat), i < k * xs.length → ((List.replicate k xs).flatten).getD i 0 = xs.getD (i % xs.length) 0
  | 0, i, hi => by simp at hi
  | k + 1, i, hi => by
    rw [List.replicate_succ, List.flatten_cons, List.getD_eq_getElem?_getD]
    by_cases q : i < xs.length
    · rw [List.getElem?_append_left q, Nat.mod_eq_of_lt q, List.getD_eq_getElem?_getD]
    · have e : (k + 1) * xs.length = k * xs.length + xs.length := Nat.succ_mul _ _
      rw [List.getElem?_append_right (by omega), ← List.getD_eq_getElem?_getD, rep_get xs h k (i - xs.length) (by omega), Nat.mod_eq_sub_mod (a := i) (by omega)]
theorem rep_len (xs : List Nat) (k : Nat) : ((List.replicate k xs).flatten).length = k * xs.length := by
  induction k with
  | zero => simp
  | succ k ih => rw [List.replicate_succ, List.flatten_cons, List.length_append, ih, Nat.succ_mul, Nat.add_comm]
theorem rep_iff {rg : List Nat} {g : Nat} (hg : 0 < g) (hl : g ≤ rg.length) (hd : rg.length % g = 0) : (List.replicate (rg.length / g) (rg.take g)).flatten = rg ↔ perOk rg g := by
  have lt : (rg.take g).length = g := by rw [List.length_take]; omega
  have tn : rg.take g ≠ [] := fun z => by rw [z] at lt; simp at lt; omega
  have hk : rg.length / g * g = rg.length := Nat.div_mul_cancel (Nat.dvd_of_mod_eq_zero hd)
  have hlen : ((List.replicate (rg.length / g) (rg.take g)).flatten).length = rg.length := by rw [rep_len, lt, hk]
  constructor
  · intro e
    refine ⟨hd, fun i hi => ?_⟩
    have z := rep_get (rg.take g) tn (rg.length / g) i (by rw [lt, hk]; exact hi)
    rw [e, lt, take_getD (Nat.mod_lt _ hg)] at z
    exact z.symm
  · intro p
    refine ext_getD hlen fun i hi => ?_
    rw [hlen] at hi
    rw [rep_get (rg.take g) tn (rg.length / g) i (by rw [lt, hk]; exact hi), lt, take_getD (Nat.mod_lt _ hg)]
    exact p.2 i hi
/-! ### walks that follow -/
/-- each beat is an arrow, and follows the one ahead of it -/
def OkW (ps : List (Nat × Nat)) (s : Nat → Nat) : Prop := ∀ i, s i < ps.length ∧ (ps.getD (s i) (0, 0)).2 = (ps.getD (s (i + 1)) (0, 0)).1
theorem OkW.to {ps : List (Nat × Nat)} {s t : Nat → Nat} (h : OkW ps s) (e : ∀ i, s i = t i) : OkW ps t := fun i => by
  rw [← e, ← e]
  exact h i
theorem beat_lt {ah rg : List Nat} {i : Nat} (h : i < ah.length) : beat ah rg i = ah.getD i 0 := by
  unfold beat
  rw [if_pos h]
theorem beat_ge {ah rg : List Nat} {i : Nat} (h : ah.length ≤ i) : beat ah rg i = rg.getD ((i - ah.length) % rg.length) 0 := by
  unfold beat
  rw [if_neg (by omega)]
theorem beat_laid {ah rg : List Nat} {i : Nat} (h : i < ah.length + rg.length) : beat ah rg i = (ah ++ rg).getD i 0 := by
  rw [List.getD_eq_getElem?_getD]
  by_cases q : i < ah.length
  · rw [beat_lt q, List.getElem?_append_left q, List.getD_eq_getElem?_getD]
  · rw [beat_ge (by omega), List.getElem?_append_right (by omega), Nat.mod_eq_of_lt (by omega), List.getD_eq_getElem?_getD]
/-- where laid together they follow, and the ring closes, every beat does -/
theorem okW_of {ps : List (Nat × Nat)} {ah rg : List Nat} (hn : rg ≠ []) (h1 : ∀ i, i < ah.length + rg.length → (ah ++ rg).getD i 0 < ps.length) (h2 : ∀ i, i + 1 < ah.length + rg.length → (ps.getD ((ah ++ rg).getD i 0) (0, 0)).2 = (ps.getD ((ah ++ rg).getD (i + 1) 0) (0, 0)).1)
    (h3 : (ps.getD (rg.getLastD 0) (0, 0)).2 = (ps.getD (rg.headD 0) (0, 0)).1) : OkW ps (beat ah rg) := by
  have hp := List.length_pos_iff.mpr hn
  -- a beat is one of those laid
  have red : ∀ i, ∃ j, j < ah.length + rg.length ∧ beat ah rg i = (ah ++ rg).getD j 0 ∧ ((j + 1 < ah.length + rg.length ∧ beat ah rg (i + 1) = (ah ++ rg).getD (j + 1) 0) ∨ (j + 1 = ah.length + rg.length ∧ beat ah rg (i + 1) = rg.headD 0)) := by
    intro i
    by_cases q : i < ah.length
    · refine ⟨i, by omega, beat_laid (by omega), .inl ⟨by omega, beat_laid (by omega)⟩⟩
    · have hm := Nat.mod_lt (i - ah.length) hp
      have e : ∀ j, j < rg.length → (ah ++ rg).getD (ah.length + j) 0 = rg.getD j 0 := fun j hj => by
        rw [List.getD_eq_getElem?_getD, List.getElem?_append_right (by omega), List.getD_eq_getElem?_getD]
        congr 2
        omega
      refine ⟨ah.length + (i - ah.length) % rg.length, by omega, by rw [beat_ge (by omega), e _ hm], ?_⟩
      have e2 : beat ah rg (i + 1) = rg.getD (((i - ah.length) % rg.length + 1) % rg.length) 0 := by
        rw [beat_ge (by omega), Nat.mod_add_mod, show i + 1 - ah.length = i - ah.length + 1 by omega]
      by_cases q2 : (i - ah.length) % rg.length + 1 < rg.length
      · exact .inl ⟨by omega, by rw [e2, Nat.mod_eq_of_lt q2, Nat.add_assoc, e _ q2]⟩
      · refine .inr ⟨by omega, ?_⟩
        rw [e2, show (i - ah.length) % rg.length + 1 = rg.length by omega, Nat.mod_self]
        cases rg with
        | nil => exact absurd rfl hn
        | cons a r => rfl
  intro i
  obtain ⟨j, hj, e1, e2⟩ := red i
  refine ⟨by rw [e1]; exact h1 j hj, ?_⟩
  rcases e2 with ⟨q, e2⟩ | ⟨q, e2⟩
  · rw [e1, e2]
    exact h2 j q
  · have el : (ah ++ rg).getD j 0 = rg.getLastD 0 := by
      rw [getLastD_at hn, List.getD_eq_getElem?_getD, List.getElem?_append_right (by omega), List.getD_eq_getElem?_getD]
      congr 2
      omega
    rw [e1, e2, el]
    exact h3
/-- and the other way about -/
theorem okW_laid {ps : List (Nat × Nat)} {ah rg : List Nat} (hn : rg ≠ []) (h : OkW ps (beat ah rg)) : (∀ i, i < ah.length + rg.length → (ah ++ rg).getD i 0 < ps.length) ∧ (∀ i, i + 1 < ah.length + rg.length → (ps.getD ((ah ++ rg).getD i 0) (0, 0)).2 = (ps.getD ((ah ++ rg).getD (i + 1) 0) (0, 0)).1) ∧
    (ps.getD (rg.getLastD 0) (0, 0)).2 = (ps.getD (rg.headD 0) (0, 0)).1 := by
  have hp := List.length_pos_iff.mpr hn
  refine ⟨fun i hi => ?_, fun i hi => ?_, ?_⟩
  · rw [← beat_laid hi]
    exact (h i).1
  · rw [← beat_laid hi, ← beat_laid (by omega)]
    exact (h i).2
  · have z := (h (ah.length + rg.length - 1)).2
    have e1 : beat ah rg (ah.length + rg.length - 1) = rg.getLastD 0 := by
      rw [getLastD_at hn, beat_ge (by omega), show ah.length + rg.length - 1 - ah.length = rg.length - 1 by omega, Nat.mod_eq_of_lt (by omega)]
    have e2 : beat ah rg (ah.length + rg.length - 1 + 1) = rg.headD 0 := by
      rw [beat_ge (by omega), show ah.length + rg.length - 1 + 1 - ah.length = rg.length by omega, Nat.mod_self]
      cases rg with
      | nil => exact absurd rfl hn
      | cons a r => rfl
    rw [e1, e2] at z
    exact z
end KW

set_option Elab.async false
set_option maxRecDepth 100000
/-! Two walks that come round agree everywhere where they do long enough; plain mathematics. -/
namespace KW
theorem Per.down {s : Nat → Nat} {N p : Nat} (h : Per s N p) {i : Nat} (hi : N ≤ i) (hp : 0 < p) : s i = s (N + (i - N) % p) ∧ N + (i - N) % p < N + p := by
  refine ⟨?_, by have := Nat.mod_lt (i - N) hp; omega⟩
  have z := h.mul ((i - N) / p) (N + (i - N) % p) (by omega)
  rw [← z]
  congr 1
  have := Nat.mod_add_div (i - N) p
  omega
theorem fine {s t : Nat → Nat} {N p q : Nat} (hp : 0 < p) (hq : 0 < q) (h1 : Per s N p) (h2 : Per t N q) (h : ∀ i, i < N + p + q → s i = t i) : ∀ i, s i = t i := by
  have h3 : Per s N q := fun i hi => by
    obtain ⟨e1, l1⟩ := h1.down hi hp
    have z := h1.mul ((i - N) / p) (N + (i - N) % p + q) (by omega)
    have e2 : s (i + q) = s (N + (i - N) % p + q) := by
      rw [← z]
      congr 1
      have := Nat.mod_add_div (i - N) p
      omega
    rw [e2, h _ (by omega), h2 _ (by omega), ← h _ (by omega), ← e1]
  intro i
  by_cases hi : N ≤ i
  · obtain ⟨e1, l1⟩ := h3.down hi hq
    obtain ⟨e2, _⟩ := h2.down hi hq
    rw [e1, e2]
    exact h _ (by omega)
  · exact h i (by omega)
theorem beats_fine {ah rg bh br : List Nat} (h1 : rg ≠ []) (h2 : br ≠ []) {m : Nat} (hm : ah.length + bh.length + rg.length + br.length ≤ m) (h : ∀ i, i < m → beat ah rg i = beat bh br i) : ∀ i, beat ah rg i = beat bh br i :=
  fine (N := ah.length + bh.length) (List.length_pos_iff.mpr h1) (List.length_pos_iff.mpr h2) ((beat_per ah rg).mono (by omega)) ((beat_per bh br).mono (by omega)) fun i hi => h i (by omega)
theorem beat_tail {l : List Nat} {x i : Nat} : beat (l ++ [x]) [x] i = if i < l.length then l.getD i 0 else x := by
  by_cases q : i < l.length
  · rw [if_pos q, beat_lt (by rw [List.length_append]; omega), List.getD_eq_getElem?_getD, List.getD_eq_getElem?_getD, List.getElem?_append_left q]
  · rw [if_neg q]
    by_cases e : i = l.length
    · rw [beat_lt (by rw [List.length_append, e]; exact Nat.lt_succ_self _), e, List.getD_eq_getElem?_getD, List.getElem?_append_right (Nat.le_refl _), Nat.sub_self]
      rfl
    · rw [beat_ge (by rw [List.length_append]; show l.length + 1 ≤ i; omega)]
      show [x].getD ((i - (l ++ [x]).length) % 1) 0 = x
      rw [Nat.mod_one]
      rfl
theorem okW_tail {ps : List (Nat × Nat)} {ah rg l : List Nat} {x : Nat} (hn : rg ≠ []) (h : OkW ps (beat ah rg)) (hl : l.length = ah.length + 2 * rg.length) (hb : ∀ i, i < l.length → l.getD i 0 = beat ah rg i) (h0 : x < ps.length) (h1 : (ps.getD x (0, 0)).1 = (ps.getD (rg.getLastD 0) (0, 0)).2) (h2 : (ps.getD x (0, 0)).2 = (ps.getD (rg.getLastD 0) (0, 0)).2) : OkW ps (beat (l ++ [x]) [x]) := by
  have hp := List.length_pos_iff.mpr hn
  intro i
  rw [beat_tail, beat_tail]
  by_cases q : i + 1 < l.length
  · rw [if_pos (by omega), if_pos q, hb _ (by omega), hb _ q]
    exact h i
  · rw [if_neg q]
    by_cases q2 : i < l.length
    · rw [if_pos q2, hb _ q2]
      have e : beat ah rg i = rg.getLastD 0 := by
        rw [beat_ge (by omega), getLastD_at hn]
        congr 1
        rw [show i - ah.length = (rg.length - 1) + rg.length * 1 by omega, Nat.add_mul_mod_self_left, Nat.mod_eq_of_lt (by omega)]
      refine ⟨(h i).1, ?_⟩
      rw [e, h1]
    · rw [if_neg q2]
      exact ⟨h0, by rw [h2, h1]⟩
theorem okW_more {ps : List (Nat × Nat)} {p : Nat × Nat} {s : Nat → Nat} (h : OkW ps s) : OkW (ps ++ [p]) s := fun i => by
  have e : ∀ j, (ps ++ [p]).getD (s j) (0, 0) = ps.getD (s j) (0, 0) := fun j => by
    rw [List.getD_eq_getElem?_getD, List.getD_eq_getElem?_getD, List.getElem?_append_left (h j).1]
  rw [e, e, List.length_append]
  exact ⟨Nat.lt_of_lt_of_le (h i).1 (Nat.le_add_right _ _), (h i).2⟩
end KW

set_option Elab.async false
set_option maxRecDepth 100000
set_option maxHeartbeats 2000000
/-! Rules that speak of no row: refusals are made and raised where nothing is handled. -/
namespace KW
open PySem PySem.Spec PyProof.Rows L2
/-- the exceptions that a def lets out, their context None -/
abbrev CN (P : Program) (w : World) : CXT := L2N.CX P w
section
variable {P : Program} {w : World} {K : PySem.W.Frag} {mg : Str → Option Value} {base : Heap}
theorem okN {x qual : Str} {st : Stmt} {f : Addr} {fd : FuncData} {N ps : List Str} {k : Nat} {sp : Sp} (F : Fun K x qual st f fd) (S : FnScope N ps (defScope st)) (len : ∀ vs H Q E, sp vs H Q E → vs.length = ps.length)
    (body : ∀ (cdv : Value) (A : Around) (outer : List Env) (s : Shared) (H : Hp) (vs : List V) (Q : VK) (E : XK), Room k (A.deeper (envOfC qual (defScope st) s.heap.objs.size f cdv)) → sp vs H Q E →
      ∃ t, PSs (cxOf (CN P w) P w K mg base N qual (defScope st) f cdv A outer s H E) (defBody st) t ∧ t { nx := fun _ H' => Q .non H', rt := Q } (start N vs) H) : FnOk P w K mg base (CN P w) (k + 1) f fd ps sp := by
  obtain ⟨c0, d0, kw, dc, pm, an, cv, ct, sl, rfl, look, code⟩ := F.ex
  exact fn_of look code S len fun A outer s H vs Q E room hyp => body cv A outer s H vs Q E room hyp
theorem takesN {N : List Str} {qual : Str} {scope : Scope} {f : Addr} {cd : Value} {A : Around} {outer : List Env} {s : Shared} {H : Hp} {E : XK} :
    L2N.Takes (cxOf (CN P w) P w K mg base N qual scope f cd A outer s H E) (fun cls d _ H' => E cls d H') :=
  L2N.takes_of rfl rfl rfl rfl
theorem passN {N : List Str} {qual : Str} {scope : Scope} {f : Addr} {cd : Value} {A : Around} {outer : List Env} {s : Shared} {H : Hp} {E : XK} :
    Passes (CN P w) (cxOf (CN P w) P w K mg base N qual scope f cd A outer s H E) E := L2N.passes_call takesN fun _ _ _ _ z => z
end
section
variable {X : Cx} {CX : CXT} {k : Nat} {f C fI : Addr} {fd : FuncData} {ps : List Str} {sp : Sp} {E : XK} {x m : Str} {mc : Value} {o e : Expr} {es : List Expr} {ta : TE} {t : TA} {p pos apos : Pos}
/-- C.m(e, ..), m a def of the class C: the very def -/
def tUCall (C : Addr) (sp : Sp) (E : XK) (ta : TE) (t : TA) : TE := fun σ H Q => ta σ H fun x H1 => x = .ref C ∧ t σ H1 fun vs H2 => sp vs H2 Q E
theorem pe_ucall {pl : Sem Bool} (ho : PE X o ta) (r : ClX.CRead X.K C mc) (found : PySem.W.findCls X.K (.ref C) mc m = some (.val (.ref f))) (F : FnOk X.prog X.w X.K X.mg X.base CX k f fd ps sp) (room : Room k X.A) (kp : PySem.W.keepIn X.K (.ref f) = true)
    (hb : Binds X.K fd ps []) (hx : Passes CX X E) (ha : PA X (e :: es) t)
    (hst : starEach (e :: es) X.env = (false, eval e X.env) :: starEach es X.env := by rfl) (hpl : (backTo pos (starEach es X.env)).any (·.1) = false := by rfl)
    (way : eval (.Call (.Attribute o m apos) (e :: es) [] pos) X.env = (do
      let o1 ← eval o X.env
      standAt apos.atName
      let (g, pre) ← holding [o1] (getMethod o1 m pl)
      callWith pos g pre (backTo pos (starEach (e :: es) X.env)) (backToKw pos (keywordEach [] X.env))) := by rfl) :
    PE X (.Call (.Attribute o m apos) (e :: es) [] pos) (tUCall C sp E ta t) := by
  refine ⟨fun pins st σ H Q I hyp => ?_⟩
  refine PySem.W.methodCall_KW (pl := pl) (thn (ho.run pins st σ H _ I hyp) fun u s1 ⟨y, H1, I1, ry, ey, rest⟩ => ?_) way
  subst ey
  obtain rfl : u = Value.ref C := ry
  refine PySem.W.method_cls I1.kIn r.ga (PySem.W.cls_value I1.kIn r.rd found (handed_of (v := .ref f) rfl) ?_)
  refine PySem.W.callWith_K (h₀ := X.base) I1.ok.mod.kin kp (thn (ha.run pos pins _ σ H1 _ (I1.tok _) rest) fun us s2 ⟨vs, H2, I2, rv, q2⟩ => ⟨I2.kIn, ?_⟩) hst hpl
  have q3 : sp (vs ++ []) H2 Q E := by rw [List.append_nil]; exact q2
  exact run_fn (ds := []) (dvs := []) F room hb .nil hx I2 rv q3
/-- what is left of a made exception -/
theorem made_end {pins : List (Addr × Obj)} {σ : L2.St} {H1 H2 : Hp} {Q : XK} {hp hp2 h2 : Heap} {g1 g2 : Array GenState} {r1 r2 : Drawn} {n1 n2 : Nat} {os1 os2 : OsState} {a d : Addr} {fs : List (Str × V)} (T : Raises X (.ref C)) (I1 : Inv X pins σ H1 ⟨hp, g1, r1, n1, os1⟩)
    (ha : hp.objs.size ≤ a) (kk : ∀ b o, hp.get? b = some o → hp2.get? b = some o) (un : Un (frs X.stack) [] (upd H1 a (exo a C none)) H2 hp2 h2) (ok2 : HOk X.prog X.w H2 h2) (eos : os2 = os1) (bare : AllBare g2)
    (ea : H2 a = some (exo a C (some d))) (ed : H2 d = some (exd d fs)) (nd : H1 d = none) (q : Q (.ref C) (some d) (upd (del H2 a) d (.xd fs))) : L2N.MkP X pins σ Q (.ref a) ⟨h2, g2, r2, n2, os2⟩ := by
  obtain ⟨t0, G, J, kG, gone, there, na⟩ := mk_end0 (d2 := r2) (t2 := n2) I1 ha kk un ok2 eos bare ea ed nd
  exact ⟨a, _, _, ⟨G, g2, r2, n2, os2⟩, _, .ref C, some d, rfl, J, kG, gone, there, ⟨rfl, rfl, fun vs hv => by cases hv; rfl⟩, rfl, rfl, na, rfl, bare, T, q⟩
/-- the call C(..) itself, us its arguments -/
theorem made_call {pins : List (Addr × Obj)} {σ : L2.St} {H1 : Hp} {Q : XK} {st : Shared} {us : List Value} {vs : List V} (T : OexC X.K C) (iC : PySem.W.findIn X.K (.ref C) "__init__" = some (some (.ref fI))) (tI : PySem.W.typeIn X.K (.ref fI) = some (.type "function"))
    (F1 : FnOk X.prog X.w X.K X.mg X.base CX k fI fd ps sp) (room : Room (k + 1) X.A) (hb : Binds X.K fd ps []) (hx : Passes CX X (fun _ _ _ => False)) (I1 : Inv X pins σ H1 st) (rel : Vals vs us) (few : vs.length ≤ 1000)
    (hyp : ∀ a, H1 a = none → sp (.ref a :: vs) (upd H1 a (exo a C none)) (fun v H2 => v = .non ∧ ∃ (d : Addr) (fs : List (Str × V)), H2 a = some (exo a C (some d)) ∧ H2 d = some (exd d fs) ∧ H1 d = none ∧ Q (.ref C) (some d) (upd (del H2 a) d (.xd fs))) (fun _ _ _ => False)) :
    wpAny (model X.prog X.w) X.A (call (.ref C) us) (L2N.MkP X pins σ Q) X.xe st := by
  obtain ⟨nm, qn, N, bs, bm, sn, sub, ab, col, dd, k0, k1, k2, k3, k5, hC, hbm⟩ := T.cls
  obtain ⟨hp, g, dr, tk, os⟩ := st
  have above : hp.objs.size ≤ hp.objs.size + 1 := Nat.le_succ _
  have go := hyp (hp.objs.size + 1) (I1.hok.fresh above)
  have stay : ∀ b o, hp.get? b = some o → ((hp.push (PySem.W.kdv_tup us)).push (PySem.HandSPX.excO C hp.objs.size)).get? b = some o := fun b o z => Heap.get?_push_of_some _ (Heap.get?_push_of_some _ z)
  have here : ((hp.push (PySem.W.kdv_tup us)).push (PySem.HandSPX.excO C hp.objs.size)).get? (hp.objs.size + 1) = some (PySem.HandSPX.excO C hp.objs.size) := by heap_get
  have I2 : Inv X pins σ (upd H1 (hp.objs.size + 1) (exo (hp.objs.size + 1) C none)) ⟨(hp.push (PySem.W.kdv_tup us)).push (PySem.HandSPX.excO C hp.objs.size), g, dr, tk, os⟩ := I1.laid (t' := tk) (a := hp.objs.size + 1) (o := exo (hp.objs.size + 1) C none) stay above (exo_ok here)
  have rel2 : Vals (V.ref (hp.objs.size + 1) :: vs) (Value.ref (hp.objs.size + 1) :: us) := .cons rfl rel
  have count : (Value.ref (hp.objs.size + 1) :: us ++ []).length = ps.length := by
    have z := rel2.length
    rw [F1.len _ _ _ _ go] at z
    rw [List.append_nil]
    exact z.symm
  have few2 : us.length ≤ sizeLine := by
    have z := rel.length
    rw [sizeLine_eq]
    omega
  have bound := hb _ (Value.ref (hp.objs.size + 1) :: us) I2.kIn count
  rw [List.append_nil] at bound
  refine wpAny_call (PySem.HandSPX.call_own F.excBase_ValueError (fun Y => PySem.HandSPX.refsVE_contains Y bm hbm) (I1.kIn _ _ hC) (PySem.W.looks_findIn I1.kIn iC) (fun self => PySem.W.bind_fn I1.kIn self tI) few2 (codeAny_mono
    (F1.run _ X.stack _ _ ⟨Value.ref (hp.objs.size + 1) :: us, []⟩ (Value.ref (hp.objs.size + 1) :: us) _ _ (fun _ _ _ => False) (room.make C us []) (I2.env0.make C us []) bound rel2 go) fun res st' got => ?_))
  cases res with
  | error er => exact hx pins σ _ _ er st' I2 got
  | ok flow =>
    cases flow with
    | ret u =>
      obtain ⟨v, H2, eos, bare, un, ok2, rv, ev, d, fs, ea, ed, nd, q2⟩ := got
      subst ev
      obtain ⟨h2, g2, d2, t2, os2⟩ := st'
      exact ⟨rv, made_end (raises_own T.exC T.tyC) I1 above stay un ok2 eos bare ea ed nd q2⟩
    | next => exact got.elim
    | brk => exact got.elim
    | cont => exact got.elim
theorem pmk_a (T : OexC X.K C) (iC : PySem.W.findIn X.K (.ref C) "__init__" = some (some (.ref fI))) (tI : PySem.W.typeIn X.K (.ref fI) = some (.type "function"))
    (F1 : FnOk X.prog X.w X.K X.mg X.base CX k fI fd ps sp) (room : Room (k + 1) X.A) (hb : Binds X.K fd ps []) (hx : Passes CX X (fun _ _ _ => False)) (hg : Gl X x) (hm : X.mg x = some (.ref C)) (ha : PA X (e :: es) t)
    (hdb : (x == ("__debug__" : Str)) = false := by decide) (he : starEach (e :: es) X.env = (false, eval e X.env) :: starEach es X.env := by rfl) (hpl : (backTo pos (starEach es X.env)).any (·.1) = false := by rfl) :
    L2N.PMk X (.Call (.Name x p) (e :: es) [] pos) (tMkO C sp [] t) := by
  intro pins st σ H Q I hyp
  refine wpAny_Call_Name_kw (ld_glob I hg hm ?_ hdb)
  refine PySem.W.callWith_K (h₀ := X.base) I.ok.mod.kin T.kC (thn (ha.run pos pins st σ H _ I hyp) fun us s1 ⟨vs, H1, I1, rel, few, rest⟩ => ⟨I1.kIn, ?_⟩) he hpl
  exact made_call T iC tI F1 room hb hx I1 rel few fun a na => by
    have z := rest a na
    rw [List.append_nil] at z
    exact z
theorem pmk_0 (T : OexC X.K C) (iC : PySem.W.findIn X.K (.ref C) "__init__" = some (some (.ref fI))) (tI : PySem.W.typeIn X.K (.ref fI) = some (.type "function"))
    (F1 : FnOk X.prog X.w X.K X.mg X.base CX k fI fd ps sp) (room : Room (k + 1) X.A) (hb : Binds X.K fd ps []) (hx : Passes CX X (fun _ _ _ => False)) (hg : Gl X x) (hm : X.mg x = some (.ref C))
    (hdb : (x == ("__debug__" : Str)) = false := by decide) : L2N.PMk X (.Call (.Name x p) [] [] pos) (tMkO C sp [] tNil) := by
  intro pins st σ H Q I hyp
  obtain ⟨few, rest⟩ := hyp
  refine wpAny_Call_Name_kw (ld_glob I hg hm ?_ hdb)
  exact PySem.W.callWith_K0 I.kIn T.kC (made_call T iC tI F1 room hb hx I .nil few fun a na => rest a na)
end
end KW

set_option Elab.async false
set_option maxRecDepth 100000
set_option maxHeartbeats 2000000
/-! Rules that speak of no row: a lambda that is handed to a def; what it lets out has None as context. -/
namespace KW
open PySem PySem.Spec PyProof.Rows L2 LamX
theorem inv_xe {X : Cx} {xe : Value → Shared → Prop} {pins : List (Addr × Obj)} {σ : L2.St} {H : Hp} {s : Shared} (I : Inv X pins σ H s) : Inv { X with xe := xe } pins σ H s := by
  obtain ⟨⟨a1, a2, a3, a4, a5, a6, a7, a8, a9, a10, a11, a12, a13, a14, a15, a16, a17, a18⟩, b2, b3, b4, b5, b6, b7, b8, b9, b10, b11⟩ := I
  exact ⟨⟨a1, a2, a3, a4, a5, a6, a7, a8, a9, a10, a11, a12, a13, a14, a15, a16, a17, a18⟩, b2, b3, b4, b5, b6, b7, b8, b9, b10, b11⟩
/-- the lambda's body -/
def lamN (X : Cx) (A : Around) (outer : List Env) (s : Shared) (H : Hp) (E : XK) (scope : Scope) (f c' : Addr) : Cx :=
  { lamCx X A outer s H E scope f c' with xe := fun er s' => wpAny (model X.prog X.w) (A.deeper (lamEnv X scope s.heap.objs.size f c')) (leaving (lamEnv X scope s.heap.objs.size f c') er) (fun _ s'' => CN X.prog X.w outer H s E er s'') (fun er' s'' => CN X.prog X.w outer H s E er' s'') s' }
theorem lamN_takes {X : Cx} {A : Around} {outer : List Env} {s : Shared} {H : Hp} {E : XK} {scope : Scope} {f c' : Addr} : L2N.Takes (lamN X A outer s H E scope f c') (fun cls d _ H' => E cls d H') := L2N.takes_of rfl rfl rfl rfl
theorem lamN_pass {X : Cx} {A : Around} {outer : List Env} {s : Shared} {H : Hp} {E : XK} {scope : Scope} {f c' : Addr} : Passes (CN X.prog X.w) (lamN X A outer s H E scope f c') E := L2N.passes_call lamN_takes fun _ _ _ _ z => z
/-- the body of the def that was handed the lambda -/
abbrev gotCx (X : Cx) (Ng : List Str) (qg : Str) (sg : Scope) (g : Addr) (cdg : Value) (s : Shared) (H : Hp) : Cx := cxOf C8.CX0 X.prog X.w X.K X.mg X.base Ng qg sg g cdg X.A X.stack s H C8.E0
section
variable {X : Cx} {pins : List (Addr × Obj)} {σ : L2.St} {H : Hp} {s : Shared}
theorem pe_ask {Ng : List Str} {qg : Str} {sg : Scope} {g f c' : Addr} {cdg pm ctv : Value} {params : Arguments} {body : Expr} {scope : Scope} {k i : Nat} {a : Str} {pn : List (Addr × Obj)} {xe : Value → Shared → Prop} {W : WX} {E : XK} {tb : TE} {p1 p2 : Pos}
    (I : Inv X pins σ H s) (L : LamS X.env.scope scope) (there : s.heap.get? f = some (PySem.W.kla_obj "<lambda>" (X.env.qual ++ "<lambda>") params body scope (cloFrom X.env.cells scope.names []) pm c' ctv)) (unf : H f = none) (nofr : f ∉ frs X.stack)
    (none_in : bindArgs (PySem.W.kla_fn "<lambda>" (X.env.qual ++ "<lambda>") params body scope (cloFrom X.env.cells scope.names []) pm (.ref c') ctv) ⟨[], []⟩ = pure [])
    (tk : L2N.Takes ((gotCx X Ng qg sg g cdg s H).tr pn xe) W) (out : ∀ cls d σ' H', E cls d H' → W cls d σ' H') (room : Room (k + 1) (X.A.deeper (envOfC qg sg s.heap.objs.size g cdg)))
    (inside : ∀ (A : Around) (outer : List Env) (s : Shared) (H : Hp), Room k (A.deeper (lamEnv X scope s.heap.objs.size f c')) → PE (lamN X A outer s H E scope f c') body tb)
    (name : Ng[i]? = some a) (vis : Vis sg a) (nd : (a == ("__debug__" : Str)) = false := by decide) (nc : (a == ("__classdict__" : Str)) = false := by decide) :
    PE ((gotCx X Ng qg sg g cdg s H).tr pn xe) (.Call (.Name a p1) [] [] p2) (fun σZ HZ Q => σZ[i]? = some (some (.ref f)) ∧ HZ c' = some (CodeO c' (X.env.qual ++ "<lambda>")) ∧ tb σ HZ Q) := by
  refine ⟨fun pinsZ sZ σZ HZ Q IZ hyp => ?_⟩
  obtain ⟨slot, code, rest⟩ := hyp
  refine wpAny_Call_Name_kw (thn ((pe_var (pos := p1) (i := i) name vis nd nc).run pinsZ sZ σZ HZ (fun v H1 => v = .ref f ∧ H1 = HZ) IZ ⟨.ref f, slot, rfl, rfl⟩) fun u s1 ⟨v, H1, I1, r1, ev, eH⟩ => ?_)
  subst ev
  rw [eH] at I1
  obtain rfl : u = Value.ref f := r1
  have now : s1.heap.get? f = some (PySem.W.kla_obj "<lambda>" (X.env.qual ++ "<lambda>") params body scope (cloFrom X.env.cells scope.names []) pm c' ctv) := I1.base.keep f _ there unf nofr (fun z => nomatch (show f ∈ ([] : List Addr) from z))
  refine PySem.W.callWith_F0 ⟨_, _, _, _, now⟩ ?_
  have un : Un (frs X.stack) [] H HZ s.heap s1.heap := I1.base
  obtain ⟨⟨oc, vs, tt, hoc, hdc, hvc⟩, _, _⟩ := I1.hok c' _ code
  have runs : codeAny (model X.prog X.w) (X.A.deeper (envOfC qg sg s.heap.objs.size g cdg)) (.call (.ref f) ⟨[], []⟩) (CR (CN X.prog X.w) (envOfC qg sg s.heap.objs.size g cdg :: X.stack) X.prog X.w HZ s1 Q E) s1 := by
    refine PySem.W.kla_callFunE room.depth now rfl L.co L.gen rfl ⟨c', oc, vs, tt, rfl, hoc, hdc, hvc⟩ ?_
    rw [none_in]
    refine wpAny_pure (wpAny_newFunctionEnv (fun y hy => (L.own y hy).2) (fun y hy => absurd hy (by simp)) (fun h₁ hns hsb => ⟨I1.nolimit.fresh _ hsb, ?_⟩) L.kind)
    show codeAny _ _ (.expr body (lamEnv X scope s1.heap.objs.size f c')) _ _
    have kept : ∀ b o, s1.heap.get? b = some o → h₁.get? b = some o := fun b o z => hsb.extBut b o (Nat.ne_of_lt (Heap.lt_size z)) (Heap.get?_push_of_some _ z)
    have J : Inv (lamN X (X.A.deeper (envOfC qg sg s.heap.objs.size g cdg)) (envOfC qg sg s.heap.objs.size g cdg :: X.stack) s1 HZ E scope f c') [] σ HZ { s1 with heap := h₁, toks := s1.toks + ([] : List (Str × Value)).length } :=
      inv_xe (lam_start2 (E := E) I L I1.env0 room.hd un hns kept)
    refine PySem.W.kla_codeExpr (wpAny_mono ((inside _ _ s1 HZ (room.deeper _)).run [] _ _ HZ Q J rest) (fun v s' got => ?_) fun er s' got => got)
    obtain ⟨v', H', J', rv, q⟩ := got
    exact ⟨v', H', J'.os, J'.bare, J'.base, J'.hok, rv, q⟩
  have hx : Passes (CN X.prog X.w) ((gotCx X Ng qg sg g cdg s H).tr pn xe) E := L2N.passes_call tk out
  refine wpAny_call (codeAny_mono runs fun res s' got => ?_)
  cases res with
  | error er => exact hx pinsZ σZ HZ s1 er s' I1 got
  | ok flow =>
    cases flow with
    | ret u => exact I1.after got
    | next => exact got.elim
    | brk => exact got.elim
    | cont => exact got.elim
end
/-- the def that calls what it was handed: TT, what it makes of the lambda's reading -/
def GivesN (X : Cx) (Ng : List Str) (x : Str) (sg : Scope) (g : Addr) (cdg : Value) (bg : List Stmt) (a : Str) (q : Str) (TT : (XK → Hp → VK → Prop) → Hp → VK → Prop) : Prop :=
  ∀ (f c' : Addr) (s : Shared) (H : Hp) (Q : VK) (tl : XK → Hp → VK → Prop), Room 4 (X.A.deeper (envOfC x sg s.heap.objs.size g cdg)) →
    (∀ (W : WX) (pn : List (Addr × Obj)) (xe : Value → Shared → Prop) (E : XK) (p1 p2 : Pos), L2N.Takes ((gotCx X Ng x sg g cdg s H).tr pn xe) W → (∀ cls d σ' H', E cls d H' → W cls d σ' H') →
      PE ((gotCx X Ng x sg g cdg s H).tr pn xe) (.Call (.Name a p1) [] [] p2) (fun σZ HZ Q => σZ[0]? = some (some (.ref f)) ∧ HZ c' = some (CodeO c' q) ∧ tl E HZ Q)) →
    H c' = some (CodeO c' q) → TT tl H Q → ∃ t, PSs (gotCx X Ng x sg g cdg s H).nox bg t ∧ t { nx := fun _ H' => Q .non H', rt := Q } (L2.start Ng [.ref f]) H
section
variable {X : Cx}
/-- x(lambda: body) -/
theorem pe_lamN {T : List (Addr × Str)} {TT : (XK → Hp → VK → Prop) → Hp → VK → Prop} {x a : Str} {g c P : Addr} {k : Nat} {pg : Arguments} {bg : List Stmt} {sg : Scope} {dV kV doc pm cdv ct oc : Value} {an od : Option Addr} {osl : Array (Option Value)} {Ng : List Str}
    {params : Arguments} {body : Expr} {scope : Scope} {t : XK → TE} {p lpos pos : Pos} (hg : Gl X x) (hm : X.mg x = some (.ref g)) (hk : PySem.W.keepIn X.K (.ref g) = true)
    (look : X.K.lookup g = some ⟨oc, od, .func (PySem.W.fnOf x x pg bg sg dV kV doc pm an cdv ct), osl⟩) (code : PySem.W.codeIn X.K cdv x = true) (hb : L2.Binds X.K (PySem.W.fnOf x x pg bg sg dV kV doc pm an cdv ct) [a] []) (Sg : FnScope Ng [a] sg) (hNg : Ng[0]? = some a) (vis : Vis sg a)
    (gives : GivesN X Ng x sg g cdv bg a (X.env.qual ++ "<lambda>") TT)
    (TB : TabB X.base X.mg c P) (hcode : X.env.code = .ref c) (inT : (P, X.env.qual ++ "<lambda>") ∈ T) (one : ∀ p ∈ T, p.1 = P → p.2 = X.env.qual ++ "<lambda>") (hk4 : 4 ≤ k + 1) (room : Room (k + 2) X.A) (L : LamS X.env.scope scope) (hdef : defaultsOf params X.env = ([], []))
    (none_in : ∀ (q : Str) (cl : List (Str × Addr)) (pm cv ctv : Value), bindArgs (PySem.W.kla_fn "<lambda>" q params body scope cl pm cv ctv) ⟨[], []⟩ = pure [])
    (inside : ∀ (A : Around) (outer : List Env) (s : Shared) (H : Hp) (E : XK) (f c' : Addr), Room k (A.deeper (lamEnv X scope s.heap.objs.size f c')) → PE (lamN X A outer s H E scope f c') body (t E))
    (hdb : (x == ("__debug__" : Str)) = false := by decide) (nd : (a == ("__debug__" : Str)) = false := by decide) (nc : (a == ("__classdict__" : Str)) = false := by decide) :
    PE X (.Call (.Name x p) [.Lambda params body scope lpos] [] pos) (tLam T TT t) := by
  refine ⟨fun pins st σ H Q I hyp => ?_⟩
  obtain ⟨tabs, hyp⟩ := hyp
  refine wpAny_Call_Name_kw (ld_glob I hg hm ?_ hdb)
  refine PySem.W.callWith_K (h₀ := X.base) I.ok.mod.kin hk ?_ (by rfl) (by rfl)
  show wpAny _ _ (spliced ((false, eval (.Lambda params body scope lpos) X.env) :: backTo pos (starEach [] X.env))) _ _ st
  refine Calls.spliced_cons (lam_make2 I TB hcode inT one tabs hdef (L.has I.ok) fun f c' pm' ctv H1 s' I1 grown T1 there unf nofr coded => ?_)
  refine Calls.spliced_nil ⟨I1.kIn, ?_⟩
  have runs : codeAny (model X.prog X.w) X.A (.call (.ref g) ⟨[.ref f], []⟩) (CR C8.CX0 X.stack X.prog X.w H1 s' Q C8.E0) s' := by
    refine run_ofS (N := Ng) (ps := [a]) (us := [.ref f]) (vs := [.ref f]) look code Sg room I1.env0 (hb s' [.ref f] I1.kIn rfl) (.cons rfl .nil) rfl fun room' => ?_
    obtain ⟨t', ht', hq'⟩ := gives f c' s' H1 Q (fun E H' Q' => t E σ H' Q') (room'.mono hk4) (fun W pn xe E p1 p2 tk out => pe_ask (i := 0) I1 L there unf nofr (none_in _ _ _ _ _) tk out room' (fun A outer s H r2 => inside A outer s H E f c' r2) hNg vis nd nc) coded (hyp H1 grown T1)
    exact ⟨t', ht'.nox, hq'⟩
  refine wpAny_call (codeAny_mono runs fun res s2 got => ?_)
  cases res with
  | error er => exact (show False from got).elim
  | ok flow =>
    cases flow with
    | ret u => exact I1.after got
    | next => exact got.elim
    | brk => exact got.elim
    | cont => exact got.elim
end
end KW

set_option Elab.async false
set_option maxRecDepth 100000
set_option maxHeartbeats 2000000
/-! Rules that speak of no row: try with several clauses, each of one class or of a tuple of classes, each with a name. -/
namespace KW
open PySem PySem.Spec PyProof.Rows L2
/-- what a clause asks for -/
inductive Asks (X : Cx) : Expr → List Value → Prop
  | one {x : Str} {c : Value} {p : Pos} (h : Names X x c) : Asks X (.Name x p) [c]
  | two {x y : Str} {c d : Value} {p1 p2 p : Pos} {k : Nat} (h1 : Names X x c) (h2 : Names X y d) : Asks X (.Tuple [.Name x p1, .Name y p2] k p) [c, d]
  | three {x y z : Str} {c d e : Value} {p1 p2 p3 p : Pos} {k : Nat} (h1 : Names X x c) (h2 : Names X y d) (h3 : Names X z e) : Asks X (.Tuple [.Name x p1, .Name y p2, .Name z p3] k p) [c, d, e]
theorem flying_on {B : Heap} {l : List Env} {a : Addr} {Z : Obj → Prop} {h h' : Heap} (f : HandSPX.FlyingZ B l a Z h) (k : ∀ b o, h.get? b = some o → h'.get? b = some o) : HandSPX.FlyingZ B l a Z h' := by
  obtain ⟨f1, f2, f3, oe, vs, T, oT, ts, g1, g2, g3, g4, g5, g6, g7, g8⟩ := f
  exact ⟨fun b o z => k b o (f1 b o z), f2, f3.of_keeps fun b o z _ => ⟨o, k b o z, rfl⟩, oe, vs, T, oT, ts, k _ _ g1, g2, g3, g4, g5, g6, k _ _ g7, g8⟩
section
variable {X : Cx}
theorem name_read {x : Str} {c : Value} {p : Pos} {a : Addr} {pn pins : List (Addr × Obj)} {σ : L2.St} {H : Hp} {s : Shared} {Q E : Value → Shared → Prop} (h : Names X x c) (S : Inv (X.suite a pn) pins σ H s) (q : Q c s) :
    wpAny (model X.prog X.w) (X.A.mark (some (.ref a))) (eval (.Name x p) X.env) Q E s := by
  obtain ⟨g, nd, m | ⟨m, v, nn⟩⟩ := h
  · exact ld_glob (X := X.suite a pn) S g m q nd
  · exact ld_blt (X := X.suite a pn) S g m v q nn nd
theorem asks_ok {te : Expr} {cs : List Value} (T : Asks X te cs) {a : Addr} {cls : Value} {b : Bool} {pn pins : List (Addr × Obj)} {σ : L2.St} {H : Hp} {s : Shared} {Q : Bool → Shared → Prop} {E : Value → Shared → Prop} (S : Inv (X.suite a pn) pins σ H s)
    (LT : PySem.W.Looks (model X.prog X.w) s.heap (typeOf (.ref a)) cls) (m : PySem.W.exmAny X.K cls cs = some b) (q : ∀ h', (∀ c o, s.heap.get? c = some o → h'.get? c = some o) → Q b { s with heap := h' }) :
    wpAny (model X.prog X.w) (X.A.mark (some (.ref a))) (eval te X.env) (fun c s1 => wpAny (model X.prog X.w) (X.A.mark (some (.ref a))) (excMatches (.ref a) c) Q E s1) E s := by
  cases T with
  | one h =>
    obtain ⟨b1, d1, x1, y1, z1⟩ := PySem.W.exmAny_cons m
    have e1 : d1 = false := by cases y1; rfl
    have e2 : b1 = b := by rw [z1, e1, Bool.or_false]
    rw [e2] at x1
    exact name_read h S ((PySem.W.exm_one (M := model X.prog X.w) S.kIn LT x1).here (q s.heap fun _ _ z => z))
  | @two x y c d p1 p2 p k h1 h2 =>
    refine wpAny_Tuple_spliced ?_
    show wpAny _ _ (spliced [(false, eval (.Name x p1) X.env), (false, eval (.Name y p2) X.env)]) _ _ _
    refine Calls.spliced_cons (name_read h1 S (Calls.spliced_cons (name_read h2 S (Calls.spliced_nil ⟨by show 2 ≤ sizeLine; decide, ?_⟩))))
    have up : ∀ (o : Obj) c o', s.heap.get? c = some o' → (s.heap.push o).get? c = some o' := fun o c o' z => Heap.get?_push_of_some _ z
    exact (PySem.W.exm_tup2 (M := model X.prog X.w) (S.kIn.keeps (up _)) (LT.keeps (up _)) (Heap.get?_push_size s.heap rfl) m).here (q _ (up _))
  | @three x y z c d e p1 p2 p3 p k h1 h2 h3 =>
    refine wpAny_Tuple_spliced ?_
    show wpAny _ _ (spliced [(false, eval (.Name x p1) X.env), (false, eval (.Name y p2) X.env), (false, eval (.Name z p3) X.env)]) _ _ _
    refine Calls.spliced_cons (name_read h1 S (Calls.spliced_cons (name_read h2 S (Calls.spliced_cons (name_read h3 S (Calls.spliced_nil ⟨by show 3 ≤ sizeLine; decide, ?_⟩))))))
    have up : ∀ (o : Obj) c o', s.heap.get? c = some o' → (s.heap.push o).get? c = some o' := fun o c o' z => Heap.get?_push_of_some _ z
    exact (PySem.W.exm_tup3 (M := model X.prog X.w) (S.kIn.keeps (up _)) (LT.keeps (up _)) (Heap.get?_push_size s.heap rfl) m).here (q _ (up _))
end
/-- the clauses' wish of an exception: i, the slot of the name -/
def wSome (K : PySem.W.Frag) (i : Nat) (D : Ends) : List (List Value × (Addr → Value → Option Addr → TS)) → WX
  | [] => fun _ _ _ _ => False
  | (cs, ts) :: r => fun cls d σ H => ∃ b, PySem.W.exmAny K cls cs = some b ∧
      (b = true → ∀ a, H a = none → ts a cls d { nx := fun σ' H' => D.nx (σ'.set i none) H', rt := D.rt, bk := fun σ' H' => D.bk (σ'.set i none) H', ct := fun σ' H' => D.ct (σ'.set i none) H' } (σ.set i (some (.ref a))) H) ∧ (b = false → wSome K i D r cls d σ H)
inductive Clauses (X : Cx) (n : Str) : List ExceptHandler → List (List Value × (Addr → Value → Option Addr → TS)) → Prop
  | nil : Clauses X n [] []
  | cons {te : Expr} {cs : List Value} {ts : Addr → Value → Option Addr → TS} {b₀ : Stmt} {suite : List Stmt} {pos : Pos} {hds : List ExceptHandler} {l : List (List Value × (Addr → Value → Option Addr → TS))} (test : Asks X te cs)
      (does : ∀ (a : Addr) (oe : Obj) (cls : Value) (d : Option Addr) (pn : List (Addr × Obj)), L2N.Zn cls d oe → (∃ vs, oe.data = .fields vs) → PSs (X.suite a ((a, oe) :: pn)) (b₀ :: suite) (ts a cls d)) (r : Clauses X n hds l) :
      Clauses X n (.ExceptHandler (some te) (some n) (b₀ :: suite) pos :: hds) ((cs, ts) :: l)
theorem try_some {X : Cx} {n : Str} {i : Nat} {body : List Stmt} {h₀ : ExceptHandler} {hds : List ExceptHandler} {l : List (List Value × (Addr → Value → Option Addr → TS))} {pos : Pos} {tb : WX → TS} (hs : X.stack = X.env :: X.outer) (hf : X.env.frame = some X.env.locals) (hN : X.N.Nodup)
    (hi : X.N[i]? = some n) (hln : X.env.kindOf n = some .local)
    (hb : ∀ (W : WX) (pn : List (Addr × Obj)) (xe : Value → Shared → Prop), L2N.Takes (X.tr pn xe) W → PassesOwn (model X.prog X.w) X.A X.env xe → PSs (X.tr pn xe) body (tb W))
    (hh : Clauses X n (h₀ :: hds) l) : PS X (.Try body (h₀ :: hds) [] [] pos) (fun D σ H => tb (wSome X.K i D l) D σ H) := by
  refine ⟨fun pins st σ H D I hyp => ?_⟩
  have ok := I.ok
  have frames : X.A.frames = some (X.env :: X.outer) := by rw [ok.frames, hs]
  have own : Loc X.env.scope n := .inl hln
  refine wpAny_Try_except ?_
  refine wpAny_mono ((hb (wSome X.K i D l) (X.pn ++ pins) (fun er s1 => wpAny (model X.prog X.w) X.A (noteFrame er X.env) (fun _ s2 => wpAny (model X.prog X.w) X.A (setFlight er none) (fun _ s3 =>
    wpAny (model X.prog X.w) X.A (handleBy er X.env (h₀ :: hds)) (SP X pins D) X.xe s3) X.xe s2) X.xe s1) (fun u s' air => ?_) PassesOwn.looking).run [] st σ H D (I.toTry _) hyp) (fun flow s1 got => ?_) (fun er s1 got => got)
  · obtain ⟨a, B, sI, pins', σ', H', cls, d, rfl, J', nb, up, sky, na, eos, ag, wish⟩ := air
    have J : Inv X pins σ' H' sI := J'.ofTry ok
    have sky' : Sky B (X.env :: X.outer) a (L2N.Zn cls d) X.env.locals s'.heap := by rw [← hs]; exact sky
    show wpAny (model X.prog X.w) X.A (noteFrame (.ref a) X.env) _ _ _
    refine L2N.Sky.land L2N.Zn.steady frames hf sky' fun h3 fl3 up3 => ?_
    have suites : ∀ {h : Heap}, HandSPX.FlyingZ B (X.env :: X.outer) a (L2N.Zn cls d) h → s'.heap.UpToSlots h → ∃ (oe : Obj) (vs : Array Value), h.get? a = some oe ∧ L2N.Zn cls d oe ∧ oe.data = .fields vs ∧ Inv (X.suite a ((a, oe) :: (X.pn ++ pins))) [] σ' H' { s' with heap := h } := fun {h} fl u => by
      obtain ⟨oe, vs, there, hz, hd⟩ := fl.there
      have JJ : Inv X pins σ' H' { s' with heap := h } := J.landed nb fl.1 (up.trans u) eos ag
      have nfr : a ∉ frs (X.env :: X.outer) := fun hm => by
        obtain ⟨_, o', e', hnf⟩ := fl.2.2.1.mem hm
        rw [there] at e'; cases e'
        exact hnf _ hd
      have nL : a ≠ X.env.locals := fun z => nfr (List.mem_filterMap.mpr ⟨X.env, List.mem_cons_self, by rw [hf, z]⟩)
      have nF : a ∉ X.fs := fun hm => by
        obtain ⟨en, hen, q⟩ := List.mem_filterMap.mp hm
        exact nfr (List.mem_filterMap.mpr ⟨en, List.mem_cons_of_mem _ hen, q⟩)
      exact ⟨oe, vs, there, hz, hd, JJ.suite there hd na nL nF⟩
    have go : ∀ {hs' : List ExceptHandler} {l' : List (List Value × (Addr → Value → Option Addr → TS))}, Clauses X n hs' l' → ∀ (h : Heap), HandSPX.FlyingZ B (X.env :: X.outer) a (L2N.Zn cls d) h → s'.heap.UpToSlots h → wSome X.K i D l' cls d σ' H' →
        wpAny (model X.prog X.w) X.A (handleBy (.ref a) X.env hs') (SP X pins D) X.xe { s' with heap := h } := by
      intro hs' l' hk
      induction hk with
      | nil => intro h _ _ z; exact z.elim
      | @cons te cs ts b₀ suite pos' hs2 l2 test does r ih =>
        intro h fl u wish
        obtain ⟨b, m, yes, no⟩ := wish
        obtain ⟨oe, vs, there, hz, hd, S⟩ := suites fl u
        refine wpAny_handleBy_cons (codeAny_handlers_test ?_) (by intro q; cases q)
        have LT : PySem.W.Looks (model X.prog X.w) h (typeOf (.ref a)) cls := fun A Q E s k q => wpAny_typeOf_ref (k _ _ there) (by rw [hz.1]; exact q)
        refine asks_ok test S LT m fun h2 k2 => ?_
        have fl2 := flying_on fl k2
        have u2 : s'.heap.UpToSlots h2 := u.trans (Heap.UpToSlots.of_keeps k2)
        cases b with
        | true =>
          refine codeAny_handlers_suite_as ?_
          refine HandSPX.lands_againZ fl2 fun h4 fl4 up4 => ?_
          obtain ⟨oe4, vs4, there4, hz4, hd4, S4⟩ := suites fl4 (u2.trans up4)
          refine store_ok (X := X.suite a ((a, oe4) :: (X.pn ++ pins))) (v := .ref a) S4 hN hi own rfl (fun s5 S5 => ?_) (.inr hln)
          refine wpAny_mono ((does a oe4 cls d (X.pn ++ pins) hz4 ⟨_, hd4⟩).run [] s5 _ H' _ S5 (yes rfl a na)) (fun flow s6 got => ?_) (fun _ _ z => False.elim z)
          have behind : ∀ {σ6 : L2.St} {H6 : Hp} {Q : Shared → Prop}, Inv (X.suite a ((a, oe4) :: (X.pn ++ pins))) [] σ6 H6 s6 → (∀ s7, Inv X pins (σ6.set i none) H6 s7 → Q s7) →
              wpAny (model X.prog X.w) X.A (do bindName X.env n .none; unbindBehindTheSuite X.env n pos') (fun _ s7 => Q s7) X.xe s6 := fun {σ6 H6 Q} S6 hq => gone_ok (S6.unsuite ok) hN hi hln hq
          cases flow with
          | next =>
            obtain ⟨σ6, H6, S6, q6⟩ := got
            exact behind S6 fun s7 J7 => ⟨_, _, J7, q6⟩
          | brk =>
            obtain ⟨σ6, H6, S6, q6⟩ := got
            exact behind S6 fun s7 J7 => ⟨_, _, J7, q6⟩
          | cont =>
            obtain ⟨σ6, H6, S6, q6⟩ := got
            exact behind S6 fun s7 J7 => ⟨_, _, J7, q6⟩
          | ret u =>
            obtain ⟨v6, σ6, H6, S6, r6, q6⟩ := got
            exact behind S6 fun s7 J7 => ⟨_, _, _, J7, r6, q6⟩
        | false => exact ih h2 fl2 u2 (no rfl)
    exact go hh h3 fl3 up3 wish
  · cases flow with
    | next =>
      obtain ⟨σ', H', J', q⟩ := got
      exact wpAny_execs_nil ⟨σ', H', J'.ofTry ok, q⟩
    | brk =>
      obtain ⟨σ', H', J', q⟩ := got
      exact ⟨σ', H', J'.ofTry ok, q⟩
    | cont =>
      obtain ⟨σ', H', J', q⟩ := got
      exact ⟨σ', H', J'.ofTry ok, q⟩
    | ret u =>
      obtain ⟨v, σ', H', J', r, q⟩ := got
      exact ⟨v, σ', H', J'.ofTry ok, r, q⟩
end KW

set_option Elab.async false
set_option maxRecDepth 100000
set_option maxHeartbeats 2000000
/-! Rules that speak of no row: a def that is handed the exception that is handled. -/
namespace KW
open PySem PySem.Spec PyProof.Rows L2 L2H
/-- a def called in a clause's suite; its promise may speak of the handled exception -/
structure FnP (P : Program) (w : World) (K : PySem.W.Frag) (mg : Str → Option Value) (base : Heap) (CX : CXT) (k : Nat) (f : Addr) (fd : FuncData) (ps : List Str) (sp : Addr × Obj → Sp) : Prop where
  len : ∀ p vs H Q E, sp p vs H Q E → vs.length = ps.length
  run : ∀ (A : Around) (outer : List Env) (s : Shared) (H : Hp) (args : Args) (us : List Value) (vs : List V) (Q : VK) (E : XK) (p : Addr × Obj), RoomH k A → Hot1 A p → PinOk outer H s p → Env0 P w K mg base A outer s H → BindsTo s fd args (ps.zip us) → Vals vs us → sp p vs H Q E →
    codeAny (model P w) A (.call (.ref f) args) (CR CX outer P w H s Q E) s
theorem okP {CX : CXT} {P : Program} {w : World} {K : PySem.W.Frag} {mg : Str → Option Value} {base : Heap} {k : Nat} {x qual : Str} {st : Stmt} {f : Addr} {fd : FuncData} {N ps : List Str} {sp : Addr × Obj → Sp} (F : Fun K x qual st f fd) (S : FnScope N ps (defScope st))
    (len : ∀ p vs H Q E, sp p vs H Q E → vs.length = ps.length)
    (body : ∀ (cdv : Value) (A : Around) (outer : List Env) (s : Shared) (H : Hp) (vs : List V) (Q : VK) (E : XK) (p : Addr × Obj), Hot1 A p → RoomH k (A.deeper (envOfC qual (defScope st) s.heap.objs.size f cdv)) → sp p vs H Q E →
      ∃ t, PSs (cxH CX P w K mg base N qual (defScope st) f cdv A outer s H E p) (defBody st) t ∧ t { nx := fun _ H' => Q .non H', rt := Q } (L2.start N vs) H) : FnP P w K mg base CX (k + 1) f fd ps sp := by
  obtain ⟨c0, d0, kw, dc, pm, an, cdv, ct, sl, rfl, look, code⟩ := F.ex
  refine ⟨len, fun A outer s H args us vs Q E p room hot pin e0 bound rel hyp => ?_⟩
  have count := len _ _ _ _ _ hyp
  have KX : K.In s.heap := e0.mod.kin.keeps fun b o z => (e0.bs b o z).1
  have lim : s.heap.NoLimit := e0.mod.nolimit.keeps fun b o z => (e0.bs b o z).1
  have kinds : ∀ y ∈ ps.zip us, (defScope st).names.lookup y.1 = some .local ∨ ((defScope st).names.lookup y.1 = some .cell ∧ ((cellsFrom (s.heap.objs.size + 1) (defScope st).names []).lookup y.1).isSome = true) := fun ⟨n, v⟩ hy => by
    rcases S.par n (List.of_mem_zip hy).1 with q | q
    · exact .inl q
    · exact .inr ⟨q, PySem.W.cellsFrom_some _ _ _ (.inl q)⟩
  refine codeAny_call_function room.depth (KX _ _ look) rfl S.co S.gen rfl (PySem.W.codeRec_of KX code) (bound _ _ _ _ ?_)
  refine wpAny_newFunctionEnv_cells S.kind kinds fun env eenv s1 inside => ?_
  subst eenv
  refine ⟨lim.keeps inside.toInCall.keep, codeAny_func ?_⟩
  obtain ⟨t, ht, hq⟩ := body cdv A outer s H vs Q E p hot (room.deeper _) hyp
  have I : Inv (cxH CX P w K mg base N qual (defScope st) f cdv A outer s H E p) [] (L2.start N vs) H s1 := inv_startH S pin e0 count rel inside
  refine wpAny_mono (ht.run [] s1 (L2.start N vs) H _ I hq) (fun flow s' got => ?_) fun er s' got => got
  have ends : ∀ {σ' : L2.St} {H' : Hp} {v : V} {u : Value}, Inv (cxH CX P w K mg base N qual (defScope st) f cdv A outer s H E p) [] σ' H' s' → RelV v u → Q v H' → CE outer P w H s Q u s' :=
    fun {σ' H' v u} J rv q => ⟨v, H', J.os, J.bare, J.base, J.hok, rv, q⟩
  cases flow with
  | ret u =>
    obtain ⟨v, σ', H', J, rv, q⟩ := got
    exact ends J rv q
  | next =>
    obtain ⟨σ', H', J, q⟩ := got
    exact ends (v := V.non) (u := Value.none) J rfl q
  | brk =>
    obtain ⟨_, _, _, q⟩ := got
    exact q.elim
  | cont =>
    obtain ⟨_, _, _, q⟩ := got
    exact q.elim
section
variable {X : Cx} {CX : CXT} {k : Nat} {f : Addr} {fd : FuncData} {ps : List Str} {sp : Addr × Obj → Sp} {E : XK} {x : Str} {q pos : Pos} {e o : Expr} {es : List Expr} {t : TA} {p : Addr × Obj}
/-- x(e, ..) in the suite -/
theorem pe_callP (F : FnP X.prog X.w X.K X.mg X.base CX k f fd ps sp) (room : RoomH k X.A) (hot : Hot1 X.A p) (hp : p ∈ X.pn) (hg : Gl X x) (hm : X.mg x = some (.ref f)) (hk : PySem.W.keepIn X.K (.ref f) = true) (hb : Binds X.K fd ps []) (hx : Passes CX X E)
    (ha : PA X (e :: es) t) (hdb : (x == ("__debug__" : Str)) = false := by decide) (he : starEach (e :: es) X.env = (false, eval e X.env) :: starEach es X.env := by rfl) (hpl : (backTo pos (starEach es X.env)).any (·.1) = false := by rfl) :
    PE X (.Call (.Name x q) (e :: es) [] pos) (fun σ H Q => t σ H fun vs H1 => sp p vs H1 Q E) := by
  refine ⟨fun pins st σ H Q I hyp => ?_⟩
  refine wpAny_Call_Name_kw (ld_glob I hg hm ?_ hdb)
  refine PySem.W.callWith_K (h₀ := X.base) I.ok.mod.kin hk (thn (ha.run pos pins st σ H _ I hyp) fun us s1 ⟨vs, H1, I1, rel, rest⟩ => ⟨I1.kIn, ?_⟩) he hpl
  have count : us.length = ps.length := by rw [← rel.length]; exact F.len _ _ _ _ _ rest
  have bound := hb s1 us I1.kIn (by rw [List.append_nil]; exact count)
  rw [List.append_nil] at bound
  have P1 := I1.pin p (List.mem_append_left _ hp)
  have pin : PinOk X.stack H1 s1 p := ⟨P1.1, P1.2.1, fun hmm => (List.mem_cons.mp (I1.stkSub p.1 hmm)).elim P1.2.2.1 P1.2.2.2.1, P1.2.2.2.2⟩
  refine wpAny_call (codeAny_mono (F.run X.A X.stack s1 H1 ⟨us, []⟩ us vs Q E p room hot pin I1.env0 bound rel rest) fun res s' got => ?_)
  cases res with
  | error er => exact hx pins σ H1 s1 er s' I1 got
  | ok flow =>
    cases flow with
    | ret u => exact I1.after got
    | next => exact got.elim
    | brk => exact got.elim
    | cont => exact got.elim
/-- the exception that p speaks of: of the class at D, its dict at dd -/
def ExcP (p : Addr × Obj) (D dd : Addr) : Prop := p.2.cls = .ref D ∧ p.2.dict = some dd ∧ ∃ vs, p.2.data = .fields vs
theorem ExcP.inst {p : Addr × Obj} {D dd : Addr} (z : ExcP p D dd) {pins : List (Addr × Obj)} {σ : L2.St} {H : Hp} {s : Shared} (I : Inv X pins σ H s) (hp : p ∈ X.pn) {fs : List (Str × V)} (hd : H dd = some (.xd fs)) :
    ∃ od, PySem.W.InstAt s.heap p.1 p.2 D (some od) ∧ ∀ n v, fs.lookup n = some v → ∃ u, RelV v u ∧ PySem.W.lookIn n od = some (some u) := by
  obtain ⟨z1, z2, vs, z3⟩ := z
  obtain ⟨there, _⟩ := I.pin p (List.mem_append_left _ hp)
  obtain ⟨mA, hns, hr⟩ := (show ObjOk X.prog X.w H s.heap dd (.xd fs) from I.hok dd _ hd)
  obtain ⟨od, ho, hl⟩ := lookIn_ns hns
  refine ⟨od, ⟨there, z1, by unfold PySem.W.notCls; rw [z3] <;> rfl, by rw [z2]; exact ho⟩, fun n v hv => ?_⟩
  obtain ⟨u, hu, ru⟩ := RelO.some_of (v := v) (o := mA n) (by rw [← hv]; exact hr n)
  exact ⟨u, ru, by rw [hl, hu]⟩
/-- isinstance(e, c), e that exception -/
def rIsP (K : PySem.W.Frag) (p : Addr × Obj) (D dd : Addr) : List V → Hp → VK → Prop := fun xs H Q => ∃ (c : V) (cv : Value) (b : Bool) (fs : List (Str × V)), xs = [.ref p.1, c] ∧ (∀ u, RelV c u → u = cv) ∧ PySem.W.kitOne K (.ref D) cv = some b ∧ H dd = some (.xd fs) ∧ Q (.bl b) H
theorem call_isP {D dd : Addr} (C : ExcC X.K D) (z : ExcP p D dd) (hp : p ∈ X.pn) : CallR X (.builtin "isinstance") (rIsP X.K p D dd) := by
  intro pins st σ H xs us Q I rel hyp
  obtain ⟨c, cv, b, fs, rfl, hcv, kit, hd, q⟩ := hyp
  cases rel with
  | cons rx rr =>
    cases rr with
    | cons rt rr =>
      cases rr
      cases rx
      have ec := hcv _ rt
      subst ec
      obtain ⟨od, J, _⟩ := z.inst I hp hd
      have cl : (PySem.W.clsIn X.K D).isSome = true := by
        obtain ⟨cd, hc, _⟩ := PySem.W.any_some C.hd
        rw [hc]
        rfl
      exact PySem.W.kia_one (PySem.W.kitx_exc cl C.hg C.hk C.hs C.ha C.hn C.ht C.hm) I.kIn J kit (fun z => nomatch z) fun tk => ⟨.bl b, H, I.kept (t' := tk) fun _ _ y => y, rfl, q⟩
/-- e.n, e that exception -/
theorem pe_fldP {D dd : Addr} {te : TE} {n : Str} (T : XfC X.K D) (hno : PySem.W.findIn X.K (.ref D) n = some none) (z : ExcP p D dd) (hp : p ∈ X.pn) (he : PE X e te) (hb : attributeBase e n X.env (eval e X.env) = eval e X.env := by rfl) :
    PE X (.Attribute e n pos) (fun σ H Q => te σ H fun y H1 => y = .ref p.1 ∧ ∃ (fs : List (Str × V)) (v : V), H1 dd = some (.xd fs) ∧ fs.lookup n = some v ∧ Q v H1) := by
  refine ⟨fun pins st σ H Q I hyp => ?_⟩
  refine attr_of hb (thn (he.run pins st σ H _ I hyp) fun u s1 ⟨y, H1, I1, ry, ey, fs, v, hd, hv, q⟩ => ?_)
  subst ey
  obtain rfl : u = Value.ref p.1 := ry
  obtain ⟨od, J, hl⟩ := z.inst I1 hp hd
  obtain ⟨u, ru, hu⟩ := hl n v hv
  exact HandSPX.exc_get I1.kIn J T.ga T.gg T.exC (PySem.W.findObj_own T.hdC hno rfl (by rw [hu])) (handed_of ru) ⟨v, H1, I1.tok _, ru, q⟩
end
end KW

set_option Elab.async false
set_option maxRecDepth 100000
set_option maxHeartbeats 2000000
/-! Rules that speak of no row: going over zip, and taking pairs apart, while an exception is handled. -/
namespace KW
open PySem PySem.Spec PyProof.Rows L2 HotX
section
variable {prog : Program} {w : World} {A : Around} {E : Value → Shared → Prop} {st : Shared}
theorem not_none (l : Addr) : ¬ ((Value.ref l == Value.none) = true) := Bool.false_ne_true
/-- StopIteration, raised while x1 is handled -/
theorem stop_hot {α : Type} {x1 : Addr} {Q : α → Shared → Prop} (hot : HotAt A x1 st.heap) (hE : ∀ h' e, (∀ b o, st.heap.get? b = some o → h'.get? b = some o) → (∃ o, h'.get? e = some o ∧ o.cls = .type "StopIteration") → E (.ref e) { st with heap := h' }) :
    wpAny (model prog w) A (newExc (.type "StopIteration") [] >>= fun e => (raiseNew e : Sem α)) Q E st := by
  obtain ⟨hh, o1, vs1, there, d1, c1⟩ := hot
  refine wpAny_bind ?made
  case made =>
  simp only [newExc, newTuple]
  refine wpAny_bind (wpAny_newObj_type ?args (by size_fits))
  case args =>
  refine wpAny_bind (m := firstArgMember _ _) (wpAny_of_eq (a := Value.none) (by first | rfl | (simp only [firstArgMember]; rfl)) (wpAny_newObj_type ?thrown (by size_fits)))
  refine raiseNew_hot ⟨hh, o1, vs1, Heap.get?_push_of_some _ (Heap.get?_push_of_some _ there), d1, c1⟩ (Nat.ne_of_lt (Heap.lt_size (Heap.get?_push_of_some _ there))) (Heap.get?_push_size _ rfl) rfl (by first | (simp; done) | (simp; omega)) (hE _ _ (fun b o z => ?_) ⟨_, Heap.get?_update_self _ (Heap.get?_push_size _ rfl) rfl, rfl⟩)
  rw [Heap.get?_update_other _ _ (Nat.ne_of_gt (Heap.lt_size (Heap.get?_push_of_some _ z)))]
  exact Heap.get?_push_of_some _ (Heap.get?_push_of_some _ z)
theorem HotAt.keep {x1 : Addr} {h h' : Heap} (hot : HotAt A x1 h) (k : ∀ o, h.get? x1 = some o → h'.get? x1 = some o) : HotAt A x1 h' := by
  obtain ⟨hh, o1, vs1, there, d1, c1⟩ := hot
  exact ⟨hh, o1, vs1, k _ there, d1, c1⟩
/-- the end of a list, while x1 is handled -/
theorem list_end_hot {z l x1 : Addr} {i : Nat} {items : Array Value} {Q : Value → Shared → Prop} (hot : HotAt A x1 st.heap) (hne : x1 ≠ z) (hit : st.heap.IsListIter z l i) (hl : st.heap.IsList l items) (hx : items[i]? = none)
    (hE : ∀ h' e, Heap.ExtBut z st.heap h' → (∃ o, h'.get? e = some o ∧ o.cls = .type "StopIteration") → E (.ref e) { st with heap := h' }) : wpAny (model prog w) A (Builtin.SmallTypes.nextOf (.ref z)) Q E st := by
  obtain ⟨ob, there, _, hd⟩ := id hit
  obtain ⟨ol, hol, _, nl, hdl⟩ := hl
  unfold Builtin.SmallTypes.nextOf
  refine wpAny_bind (wpAny_callSpecial?_slot (name := Str.ofString "__next__") hit.typeIs slot_listiter_next (wpAny_call_entry slot_listiter_next hit.typeIs entry_listiter_next ?_ (args_listiter_next _)))
  show wpAny _ _ (field (.ref z) 0 >>= _) _ _ st
  refine wpAny_bind (wpAny_field there hd (x := .ref l) rfl ?_)
  show wpAny _ _ (if (Value.ref l == Value.none) = true then _ else _) _ _ st
  rw [if_neg (not_none l)]
  show wpAny _ _ (field (.ref z) 1 >>= _) _ _ st
  refine wpAny_bind (wpAny_field there hd (x := .int i 0) rfl ?_)
  show wpAny _ _ (seqItems? (.ref l) >>= _) _ _ st
  refine wpAny_bind (wpAny_seqItems hol hdl ?_)
  simp only [Int.toNat_natCast, hx]
  have sb : Heap.SameBut z st.heap _ := Heap.SameBut.update (h := st.heap) (a := z) (f := Obj.mapFields (·.setIfInBounds 0 Value.none))
  refine wpAny_bind (wpAny_rule (wpAny_bind (wpAny_setField there hd (by simp) ?_)))
  refine stop_hot (st := { st with heap := _ }) (HotAt.keep hot fun o q => sb.extBut _ _ hne q) fun h' e k he => hE h' e (fun b o nb q => k b o (sb.extBut b o nb q)) he
/-- the end of a tuple, while x1 is handled -/
theorem tuple_end_hot {z t x1 : Addr} {i : Nat} {items : Array Value} {Q : Option Value → Shared → Prop} (hot : HotAt A x1 st.heap) (hne : x1 ≠ z) (hit : IsTupIter st.heap z t i) (ht : IsTup st.heap t items) (hx : items[i]? = none)
    (hQ : ∀ h', Heap.ExtBut z st.heap h' → Q none { st with heap := h' }) : wpAny (model prog w) A (pyNext (.ref z)) Q E st := by
  obtain ⟨ob, there, _, hd⟩ := id hit
  obtain ⟨ol, hol, _, nl, hdl⟩ := ht
  unfold pyNext
  refine wpAny_bind (wpAny_attempt (wpAny_callSpecial?_slot (name := Str.ofString "__next__") hit.typeIs slot_tupleiter_next (wpAny_call_entry slot_tupleiter_next hit.typeIs entry_tupleiter_next ?_ (args_tupleiter_next _))))
  show wpAny _ _ (field (.ref z) 0 >>= _) _ _ st
  refine wpAny_bind (wpAny_field there hd (x := .ref t) rfl ?_)
  show wpAny _ _ (if (Value.ref t == Value.none) = true then _ else _) _ _ st
  rw [if_neg (not_none t)]
  show wpAny _ _ (field (.ref z) 1 >>= _) _ _ st
  refine wpAny_bind (wpAny_field there hd (x := .int i 0) rfl ?_)
  show wpAny _ _ (seqItems? (.ref t) >>= _) _ _ st
  refine wpAny_bind (wpAny_seqItems hol hdl ?_)
  simp only [Int.toNat_natCast, hx]
  have sb : Heap.SameBut z st.heap _ := Heap.SameBut.update (h := st.heap) (a := z) (f := Obj.mapFields (·.setIfInBounds 0 Value.none))
  refine wpAny_bind (wpAny_rule (wpAny_bind (wpAny_setField there hd (by simp) ?_)))
  refine stop_hot (st := { st with heap := _ }) (HotAt.keep hot fun o q => sb.extBut _ _ hne q) fun h' e k he => ?_
  obtain ⟨oe, he1, he2⟩ := he
  refine wpAny_bind (wpAny_isInstance (T := "StopIteration") (b := true) ⟨oe, he1, he2⟩ isSubtype_stop (wpAny_pure (hQ _ fun b o nb q => k b o (sb.extBut b o nb q))))
/-- a tuple is taken apart, while x1 is handled -/
theorem apart_hot {t x1 : Addr} {items : Array Value} {env : Env} {elts : List Expr} {kk : Nat} {pos : Pos} {Q : Unit → Shared → Prop} (hot : HotAt A x1 st.heap) (ht : IsTup st.heap t items) (hn : (assignEach elts env).length = items.size) (hstar : (assignEach elts env).findIdx? (·.1) = none)
    (hQ : ∀ h', Heap.ExtBut st.heap.objs.size st.heap h' → wpAny (model prog w) A (assignInOrder ((assignEach elts env).map (·.2)) items.toList) Q E { st with heap := h' }) : wpAny (model prog w) A (assign (.Tuple elts kk pos) env (.ref t)) Q E st := by
  have hlt : t ≠ st.heap.objs.size := by obtain ⟨ob, there, _⟩ := ht; exact Nat.ne_of_lt (Heap.lt_size there)
  have hlx : x1 ≠ st.heap.objs.size := by obtain ⟨_, ob, _, there, _⟩ := hot; exact Nat.ne_of_lt (Heap.lt_size there)
  rw [assign_Tuple]
  refine wpAny_bind (wpAny_standAt ?_)
  unfold unpack
  rw [hn, hstar]
  refine wpAny_bind (wpAny_holding ?_)
  unfold unpackItems notIterableAtAll
  refine wpAny_bind (wpAny_bind (wpAny_specialOf ht.typeIs slot_tuple_iter.lookup (wpAny_pure ?_)))
  simp only [Bool.false_eq_true, if_false]
  refine wpAny_bind (wpAny_holding (iter_tuple ht ?_))
  refine wpAny_bind (wpAny_holding (draw_tuple hlt items.size 0 _ _ ⟨_, Heap.get?_push_size _ rfl, rfl, rfl⟩ (ht.push _) (by omega) fun h1 hit1 hs1 => ?_))
  rw [show List.take items.size (List.drop 0 items.toList) = items.toList from by rw [List.drop_zero]; exact List.take_of_length_le (by simp)]
  rw [if_neg (by simp)]
  have ht1 : IsTup h1 t items := (ht.push _).extBut hs1.extBut hlt
  have hot1 : HotAt A x1 h1 := HotAt.keep hot fun o q => hs1.extBut _ _ hlx (Heap.get?_push_of_some _ q)
  refine wpAny_bind (wpAny_holding (tuple_end_hot (st := { st with heap := h1 }) hot1 hlx hit1 ht1 (by simp) fun h2 he2 => ?_))
  simp only [Option.isSome_none, Bool.false_eq_true, if_false]
  exact wpAny_pure (hQ h2 fun b o nb q => he2 b o nb (hs1.extBut b o nb (Heap.get?_push_of_some _ q)))
end
/-- a list's items, drawn while x1 is handled -/
theorem draws_hot {prog : Program} {w : World} {A : Around} (z l x1 : Addr) (hne : l ≠ z) (hx1 : x1 ≠ z) (items : Array Value) :
    Draws prog w A z [z, l, x1] items.size (fun i v => items[i]? = some v) (fun i h => h.IsListIter z l i ∧ h.IsList l items ∧ HotAt A x1 h) where
  live := fun _ _ s0 => let ⟨o, ho, _⟩ := s0.1; ⟨o, ho⟩
  frame := fun _ _ _ s0 hk => ⟨s0.1.at fun o q => hk z (by simp) o q, s0.2.1.at fun o q => hk l (by simp) o q, HotAt.keep s0.2.2 fun o q => hk x1 (by simp) o q⟩
  item := fun i s Q E hi s0 hQ => by
    refine wpAny_nextOf_list_item s0.1 s0.2.1 (x := items[i]) (by simp [hi]) fun h' hit' hs' => ?_
    exact hQ _ h' s.toks (by simp [hi]) ⟨hit', s0.2.1.extBut hs'.extBut hne, HotAt.keep s0.2.2 fun o q => hs'.extBut _ _ hx1 q⟩ hs'
  done := fun s Q E s0 hE => list_end_hot s0.2.2 hx1 s0.1 s0.2.1 (by simp) hE
/-- zip of two lists that came to its end, while x1 is handled -/
theorem zip_end_hot {prog : Program} {w : World} {A : Around} {E : Value → Shared → Prop} {st : Shared} {z TI TO i1 i2 a b x1 : Addr} {i : Nat} {xs ys : Array Value} {u v : Value} {Q : Option Value → Shared → Prop} (D : ZipApart z TI TO i1 i2 a b) (hot : HotAt A x1 st.heap) (nx : x1 ∉ [z, TI, TO, i1, i2])
    (hz : IsZip st.heap z TI TO .none) (hTI : IsPair st.heap TI (.ref i1) (.ref i2)) (hTO : IsPair st.heap TO u v) (h1 : st.heap.IsListIter i1 a i) (h2 : st.heap.IsListIter i2 b i) (l1 : st.heap.IsList a xs) (l2 : st.heap.IsList b ys) (e1 : i ≤ xs.size) (e2 : i ≤ ys.size) (e : i = xs.size ∨ i = ys.size)
    (hQ : ∀ h' tk, (∀ c o, c ≠ z → c ≠ TO → c ≠ i1 → c ≠ i2 → st.heap.get? c = some o → h'.get? c = some o) → Q none { st with heap := h', toks := tk }) : wpAny (model prog w) A (pyNext (.ref z)) Q E st := by
  simp only [List.mem_cons, List.not_mem_nil, or_false, not_or] at nx
  obtain ⟨n1, n2, n3, n4, n5⟩ := nx
  have S : ZipSep2 z TI TO i1 i2 [i1, a, x1] [i2, b, x1] := {
    TIz := D.TIz, TOz := D.TOz, TITO := D.TITO, TIi1 := D.TIi1, TIi2 := D.TIi2
    mem1 := by simp
    mem2 := by simp
    zf1 := by simp [D.i1z.symm, D.l1z.symm, Ne.symm n1]
    zf2 := by simp [D.i2z.symm, D.l2z.symm, Ne.symm n1]
    Tf1 := by simp [D.TOi1, D.l1TO.symm, Ne.symm n3]
    Tf2 := by simp [D.TOi2, D.l2TO.symm, Ne.symm n3]
    sep1_2 := by simp [D.i12, D.l2i1.symm, Ne.symm n4]
    sep2_1 := by simp [D.i12.symm, D.l1i2.symm, Ne.symm n5] }
  exact wpAny_pyNext_zipD2_end S (draws_hot (A := A.in1) i1 a x1 D.l1i1 n4 xs) (draws_hot (A := A.in1) i2 b x1 D.l2i2 n5 ys) hz hTI hTO ⟨h1, l1, hot⟩ ⟨h2, l2, hot⟩ e1 e2 e hQ
end KW

set_option Elab.async false
set_option maxRecDepth 100000
set_option maxHeartbeats 2000000
/-! Rules that speak of no row: a list comprehension while an exception is handled. -/
namespace KW
open PySem PySem.Spec PyProof.Rows L2 HotX L2H
/-- the handled exception stood where the context began, out of its reach -/
def HotB (Y : Cx) : Prop := ∃ (x1 : Addr) (ob : Obj) (vs : Array Value), Y.A.handled = some (.ref x1) ∧ Y.s_0.heap.get? x1 = some ob ∧ ob.data = .fields vs ∧ vs[2]? = some .none ∧ Y.H_0 x1 = none ∧ x1 ∉ Y.fs ∧ x1 ∉ Y.ex
theorem HotB.at {Y : Cx} {pins : List (Addr × Obj)} {σ : L2.St} {H : Hp} {st : Shared} (h : HotB Y) (I : Inv Y pins σ H st) : ∃ x1, HotAt Y.A x1 st.heap ∧ x1 ∉ Y.ex := by
  obtain ⟨x1, ob, vs, hh, there, hd, hc, hn, nf, ne⟩ := h
  exact ⟨x1, ⟨hh, ob, vs, I.base.keep x1 ob there hn nf ne, hd, hc⟩, ne⟩
theorem pg_tupF {Y : Cx} {es : List Expr} {kk n : Nat} {t : TGs} {pos : Pos} (hot : HotB Y) (h : PGs Y es t) (hn : (assignEach es Y.env).length = n := by rfl) (hst : (assignEach es Y.env).findIdx? (·.1) = none := by rfl) : PG Y (.Tuple es kk pos) (gTup Y.K n t) := by
  refine ⟨fun pins st σ H v u Q I rel hyp => ?_⟩
  obtain ⟨a, xs, rfl, hsq, hlen, rest⟩ := hyp
  cases rel
  obtain ⟨x1, hotA, _⟩ := hot.at I
  obtain ⟨its, vals, isT, _⟩ := I.tuple hsq
  refine apart_hot hotA isT (by simp [hn, ← hlen, vals.length]) hst fun h' grown => ?_
  have I1 : Inv Y pins σ H { st with heap := h' } := I.kept (t' := st.toks) fun c o z => grown c o (Nat.ne_of_lt (Heap.lt_size z)) z
  exact h.run pins _ σ H xs _ Q I1 (by simpa using vals) rest
/-- an iterator while an exception is handled: x1 -/
structure TurnF (P : Program) (w : World) (K : PySem.W.Frag) (tg : Expr) (J : It) (fp : List Addr) (it : Addr) (tn : Nat → Heap → Prop) : Prop where
  obj : ∀ q h, tn q h → ∀ c ∈ fp, ∃ o, h.get? c = some o ∧ ∀ v, o.data ≠ .cell v
  keep : ∀ q h h', tn q h → (∀ c ∈ fp, ∀ o, h.get? c = some o → h'.get? c = some o) → tn q h'
  item : ∀ (X : Cx) (x1 : Addr), X.prog = P → X.w = w → X.K = K → x1 ∉ fp → ∀ (q : Nat) (pins : List (Addr × Obj)) (s : Shared) (σ : L2.St) (H : Hp) (E : Value → Shared → Prop), HotAt X.A x1 s.heap → Inv X pins σ H s → (∀ c ∈ fp, FpOk X pins H c) → tn q s.heap → J.go q H →
    wpAny (model P w) X.A (pyNext (.ref it)) (fun r s1 => ∃ u, r = some u ∧ wpAny (model P w) X.A (letOwnedTupleGo tg (.ref it) u) (fun _ s2 => ∃ x H', Inv X pins σ H' s2 ∧ RelV x u ∧ J.yld q H x H' ∧ tn (q + 1) s2.heap ∧ ∀ c ∈ fp, H' c = none) E s1) E s
  done : ∀ (X : Cx) (x1 : Addr), X.prog = P → X.w = w → X.K = K → x1 ∉ fp → ∀ (q : Nat) (pins : List (Addr × Obj)) (s : Shared) (σ : L2.St) (H : Hp) (E : Value → Shared → Prop), HotAt X.A x1 s.heap → Inv X pins σ H s → (∀ c ∈ fp, FpOk X pins H c) → tn q s.heap → J.stop q H →
    wpAny (model P w) X.A (pyNext (.ref it)) (fun r s1 => r = none ∧ Inv X pins σ H s1) E s
  self : ∀ (A : Around) (q : Nat) (s : Shared) (Q E : Value → Shared → Prop), tn q s.heap → Q (.ref it) s → wpAny (model P w) A (pyIter (.ref it)) Q E s
/-- two lists of one length, item by item in new pairs -/
def Itz1 (K : PySem.W.Frag) (a b : Addr) : It where
  go := fun i H => ∃ (xs ys : List V) (x y : V), SqL K H a xs ∧ SqL K H b ys ∧ xs[i]? = some x ∧ ys[i]? = some y
  yld := fun i H v H' => ∃ T x y, v = .ref T ∧ H T = none ∧ H' = upd H T (.tup [x, y]) ∧ (∀ xs, SqL K H a xs → xs[i]? = some x) ∧ ∀ ys, SqL K H b ys → ys[i]? = some y
  stop := fun i H => ∃ xs ys : List V, SqL K H a xs ∧ SqL K H b ys ∧ xs.length = i ∧ ys.length = i
theorem turn_zipF {P : Program} {w : World} {K : PySem.W.Frag} {es : List Expr} {kk : Nat} {tp : Pos} {a b z TI TO i1 i2 : Addr} (D : ZipApart z TI TO i1 i2 a b) :
    TurnF P w K (.Tuple es kk tp) (Itz1 K a b) [z, TI, TO, i1, i2] z (fun q h => IsZip h z TI TO .none ∧ IsPair h TI (.ref i1) (.ref i2) ∧ (∃ x y, IsPair h TO x y) ∧ h.IsListIter i1 a q ∧ h.IsListIter i2 b q) where
  obj := fun q h state c hc => by
    obtain ⟨hz, hTI, ⟨x, y, hTO⟩, ⟨o1, e1, _, d1⟩, ⟨o2, e2, _, d2⟩⟩ := state
    simp only [List.mem_cons, List.not_mem_nil, or_false] at hc
    rcases hc with rfl | rfl | rfl | rfl | rfl
    · exact ⟨_, hz, fun v bad => nomatch bad⟩
    · exact ⟨_, hTI, fun v bad => nomatch bad⟩
    · exact ⟨_, hTO, fun v bad => nomatch bad⟩
    · exact ⟨o1, e1, fun v bad => by rw [d1] at bad; cases bad⟩
    · exact ⟨o2, e2, fun v bad => by rw [d2] at bad; cases bad⟩
  keep := fun q h h' state stay => by
    obtain ⟨hz, hTI, ⟨x, y, hTO⟩, h1, h2⟩ := state
    exact ⟨stay z (by simp) _ hz, stay TI (by simp) _ hTI, ⟨x, y, stay TO (by simp) _ hTO⟩, h1.at fun o y => stay i1 (by simp) o y, h2.at fun o y => stay i2 (by simp) o y⟩
  item := by
    intro X x1 eP ew eK nx q pins s σ H E hot I fresh state going
    subst eP ew eK
    obtain ⟨hz, hTI, ⟨x0, y0, hTO⟩, h1, h2⟩ := state
    obtain ⟨xs, ys, x, y, hqx, hqy, hx, hy⟩ := going
    obtain ⟨its, vals, p1, _⟩ := I.list hqx
    obtain ⟨its2, vals2, p2, _⟩ := I.list hqy
    obtain ⟨u, hu, ru⟩ := vals.get hx
    obtain ⟨u2, hu2, ru2⟩ := vals2.get hy
    have zOld : z < s.heap.objs.size := Heap.lt_size hz
    refine wpAny_pyNext_zip_item D hz hTI hTO h1 h2 p1.isList p2.isList (x := u) (y := u2) (by simpa using hu) (by simpa using hu2) fun h' hz' hTO' h1' h2' new hsz hkeep => ?_
    refine ⟨_, rfl, wpAny_letOwnedTupleGo_zip (s := { s with heap := h' }) hz' fun hp2 hz2 same2 => ?_⟩
    have new2 : hp2.get? s.heap.objs.size = some { cls := .type "tuple", data := .seq #[u, u2] } := (same2.2 _ (Nat.ne_of_gt zOld)).trans new
    have okT : ObjOk X.prog X.w (upd H s.heap.objs.size (.tup [x, y])) hp2 s.heap.objs.size (.tup [x, y]) := ⟨by show 2 ≤ sizeLine; decide, [u, u2], .cons ru (.cons ru2 .nil), ⟨_, new2, rfl, _, rfl⟩⟩
    have kept : ∀ c o, c ∉ [z, TI, TO, i1, i2] → s.heap.get? c = some o → hp2.get? c = some o := fun c o hc ho => by
      simp only [List.mem_cons, List.not_mem_nil, or_false, not_or] at hc
      exact (same2.2 c hc.1).trans (hkeep c o hc.1 hc.2.2.1 hc.2.2.2.1 hc.2.2.2.2 ho)
    have I2 : Inv X pins σ (upd H s.heap.objs.size (.tup [x, y])) { s with heap := hp2 } := I.turnedNew (t' := s.toks) (ch := [z, TI, TO, i1, i2]) kept fresh (Nat.le_refl _) okT
    refine ⟨.ref s.heap.objs.size, _, I2, rfl, ⟨_, x, y, rfl, I.hok.fresh (Nat.le_refl _), rfl, fun l hl => by rw [I.list_inj hl hqx]; exact hx, fun l hl => by rw [I.list_inj hl hqy]; exact hy⟩,
      ⟨hz2, (same2.2 _ D.TIz).trans (hkeep _ _ D.TIz D.TITO D.TIi1 D.TIi2 hTI), ⟨u, u2, (same2.2 _ D.TOz).trans hTO'⟩, h1'.at fun o y => (same2.2 _ D.i1z).trans y, h2'.at fun o y => (same2.2 _ D.i2z).trans y⟩, fun c hc => ?_⟩
    have cOld : c < s.heap.objs.size := by
      simp only [List.mem_cons, List.not_mem_nil, or_false] at hc
      rcases hc with rfl | rfl | rfl | rfl | rfl
      · exact zOld
      · exact Heap.lt_size hTI
      · exact Heap.lt_size hTO
      · obtain ⟨_, e1, _⟩ := h1; exact Heap.lt_size e1
      · obtain ⟨_, e2, _⟩ := h2; exact Heap.lt_size e2
    rw [upd_ne (Nat.ne_of_lt cOld)]
    exact (fresh c hc).1
  done := by
    intro X x1 eP ew eK nx q pins s σ H E hot I fresh state stopping
    subst eP ew eK
    obtain ⟨hz, hTI, ⟨x0, y0, hTO⟩, h1, h2⟩ := state
    obtain ⟨xs, ys, hqx, hqy, l1, l2⟩ := stopping
    obtain ⟨its, vals, p1, _⟩ := I.list hqx
    obtain ⟨its2, vals2, p2, _⟩ := I.list hqy
    have m1 := vals.length
    have m2 := vals2.length
    refine zip_end_hot D hot nx hz hTI hTO h1 h2 p1.isList p2.isList (by simp; omega) (by simp; omega) (.inl (by simp; omega)) fun h' tk hk => ⟨rfl, I.turnedL (t' := tk) (ch := [z, TI, TO, i1, i2]) (fun c o hc ho => ?_) fresh⟩
    simp only [List.mem_cons, List.not_mem_nil, or_false, not_or] at hc
    exact hk c o hc.1 hc.2.2.1 hc.2.2.2.1 hc.2.2.2.2 ho
  self := fun A q s Q E state hq => wpAny_pyIter_zip state.1 hq
def iZipF (K : PySem.W.Frag) (ta : TA) : TI := fun σ H R => ta σ H fun vs H1 => ∃ a b xs ys, vs = [.ref a, .ref b] ∧ SqL K H1 a xs ∧ SqL K H1 b ys ∧ R (Itz1 K a b) H1
structure PIF (X : Cx) (tg iter : Expr) (wi : TI) : Prop where
  run : ∀ (pins : List (Addr × Obj)) (s : Shared) (σ : L2.St) (H : Hp) (R : It → Hp → Prop), Inv X pins σ H s → wi σ H R →
    wpAny (model X.prog X.w) X.A (eval iter X.env) (fun v s1 => wpAny (model X.prog X.w) X.A (pyIter v) (fun itv s2 => ∃ (it : Addr) (fp : List Addr) (tn : Nat → Heap → Prop) (J : It) (H' : Hp), itv = .ref it ∧ Inv X pins σ H' s2 ∧ TurnF X.prog X.w X.K tg J fp it tn ∧ tn 0 s2.heap ∧ (∀ c ∈ fp, FpOk X pins H' c) ∧ R J H') X.xe s1) X.xe s
theorem pi_zipF {X : Cx} {e e2 : Expr} {ta : TA} {p pos tp : Pos} {es : List Expr} {kk : Nat} (hg : Gl X "zip") (hm : X.mg "zip" = none) (ha : PA X [e, e2] ta)
    (hs : starEach [e, e2] X.env = (false, eval e X.env) :: starEach [e2] X.env := by rfl) (hpl : (backTo pos (starEach [e2] X.env)).any (·.1) = false := by rfl) :
    PIF X (.Tuple es kk tp) (.Call (.Name "zip" p) [e, e2] [] pos) (iZipF X.K ta) := by
  refine ⟨fun pins st σ H R I hyp => ?_⟩
  refine Call_ (ld_blt I hg hm PyProof.Rows.boot_zip (PyProof.Rows.callWith_type1 (thn (ha.run pos pins st σ H _ I hyp) fun us s1 ⟨vs, H1, I1, rel, rest⟩ => ?_) hs hpl))
  obtain ⟨a, b, xs, ys, rfl, hqx, hqy, hR⟩ := rest
  cases rel with
  | cons r1 rr =>
    cases rr with
    | cons r2 rr =>
      cases rr
      cases r1
      cases r2
      obtain ⟨its, vals, p1, _⟩ := I1.list hqx
      obtain ⟨its2, vals2, p2, _⟩ := I1.list hqy
      refine call_zip_2 p1.isList p2.isList fun h' hz hTI hTO h1 h2 hsz hk => wpAny_pyIter_zip hz ?_
      have I2 : Inv X pins σ H1 { s1 with heap := h' } := I1.kept (t' := s1.toks) hk
      refine ⟨s1.heap.objs.size + 4, [s1.heap.objs.size + 4, s1.heap.objs.size + 2, s1.heap.objs.size + 3, s1.heap.objs.size, s1.heap.objs.size + 1], _, _, H1, rfl, I2, turn_zipF (PySem.W.ktu_apart s1.heap.objs.size a b p1.lt p2.lt), ⟨hz, hTI, ⟨_, _, hTO⟩, h1, h2⟩, fun c hc => ?_, hR⟩
      have above : s1.heap.objs.size ≤ c := by
        simp only [List.mem_cons, List.not_mem_nil, or_false] at hc
        rcases hc with rfl | rfl | rfl | rfl | rfl
        · exact Nat.le_add_right _ _
        · exact Nat.le_add_right _ _
        · exact Nat.le_add_right _ _
        · exact Nat.le_refl _
        · exact Nat.le_add_right _ _
      exact I1.fpOk above (I1.hok.fresh above)
section
variable {X : Cx}
theorem lcF_core {pins : List (Addr × Obj)} {st : Shared} {σ : L2.St} {H : Hp} {Q : VK} {elt tg iter : Expr} {ifs : List Expr} {scope : Scope} {own : List (Str × Nat)} {pos pos' : Pos} {wi : TI} {g : TG} {tt : TT} {te : TE} {use : Option (Value → Sem Unit)} {Qf : Value → Shared → Prop}
    (hot : HotC X) (hN : X.N.Nodup) (I : Inv X pins σ H st) (hi : PIF X tg iter wi) (ok : BlkOk X.N X.env.scope scope own)
    (hg : ∀ (s : Shared) (H : Hp) (C : Addr) (cl : List (Str × Addr)) (fp : List Addr), HotB (X.blk s H scope (compEnvC scope cl C X.env) fp) → PG (X.blk s H scope (compEnvC scope cl C X.env) fp) tg g)
    (ht : ∀ (s : Shared) (H : Hp) (C : Addr) (cl : List (Str × Addr)) (fp : List Addr), HotB (X.blk s H scope (compEnvC scope cl C X.env) fp) → PTs (X.blk s H scope (compEnvC scope cl C X.env) fp) ifs tt)
    (he : ∀ (s : Shared) (H : Hp) (C : Addr) (cl : List (Str × Addr)) (fp : List Addr), HotB (X.blk s H scope (compEnvC scope cl C X.env) fp) → PE (X.blk s H scope (compEnvC scope cl C X.env) fp) elt te) (hs : ∀ x, foldedSetIterable iter X.env x = pure x)
    (hyp : tLc wi g tt te (own.map (·.2)) σ H Q)
    (ends : ∀ D C s' m H', Inv X pins σ H' s' → Q (.ref D) H' → s'.heap.Ns C m → FpOk X pins H' C → compPost (model X.prog X.w) X.A X.xe use Qf (.ref D) C (.ok .next) s') :
    wpAny (model X.prog X.w) X.A (comprehension (.ListComp elt [⟨tg, iter, ifs, 0⟩] scope pos) scope X.env pos' (newList []) false (eval iter X.env) use) Qf X.xe st := by
  have captured : ∀ y ∈ scope.names, y.2 = .free → ∃ c, X.env.cells.lookup y.1 = some c := fun y hy z => by
    rcases ok.free y hy z with k | k
    · exact I.ok.has _ (.inl k)
    · exact I.ok.has _ (.inr k)
  refine wpAny_comprehension_free (use := use) rfl hs (closure_ok captured) ok.kind (fun y hy z => by rw [ok.uniq y hy, z]) (thn (hi.run pins st σ H _ I hyp) fun xv s1 got => thn got fun itv s2 got2 => ?_)
  obtain ⟨it, fp, tn, J, H2, rfl, I2, T, st2, f2, rest⟩ := got2
  refine wpAny_newObj_type (newEnv_comp ?_) (by show 0 ≤ sizeLine; decide)
  generalize hD : s2.heap.objs.size = D
  have nD : H2 D = none := I2.hok.fresh (Nat.le_of_eq hD)
  obtain ⟨W, ⟨m0, w0⟩, turn⟩ := rest D nD
  generalize hs3 : ({ s2 with heap := s2.heap.push { cls := .type "list", data := .seq ([] : List Value).toArray } } : Shared) = s3
  have I3 : Inv X pins σ (upd H2 D (.lst [])) s3 := by
    rw [← hs3]
    refine I2.laid (t' := s2.toks) (fun b o z => Heap.get?_push_of_some _ z) (Nat.le_of_eq hD) ⟨Nat.zero_le _, [], 0, .nil, ?_⟩
    rw [← hD]
    exact Heap.get?_push_size _ rfl
  have heap3 : s3.heap = s2.heap.push { cls := .type "list", data := .seq ([] : List Value).toArray } := by rw [← hs3]
  have old : ∀ c ∈ fp, c < s2.heap.objs.size := fun c hc => by
    obtain ⟨o, z, _⟩ := T.obj _ _ st2 c hc
    exact Heap.lt_size z
  have f3 : ∀ c ∈ fp, FpOk X pins (upd H2 D (.lst [])) c ∧ c < s3.heap.objs.size := fun c hc => by
    have lt := old c hc
    refine ⟨⟨?_, (f2 c hc).2⟩, by rw [heap3, Heap.size_push]; exact Nat.lt_succ_of_lt lt⟩
    rw [upd_ne (by rw [← hD]; exact Nat.ne_of_lt lt)]
    exact (f2 c hc).1
  have st3 : tn 0 s3.heap := T.keep _ _ _ st2 fun c _ o z => by rw [heap3]; exact Heap.get?_push_of_some _ z
  have I4 := block_start I3 ok hN f3
  -- the handled exception
  obtain ⟨px, ⟨handled, vx, dx, cx⟩, mem⟩ := hot
  have pin3 := I3.pin px (List.mem_append_left _ mem)
  have nfp : px.1 ∉ fp := fun z => (f3 _ z).1.2.2.2.2.2 px (List.mem_append_left _ mem) rfl
  have nst : px.1 ∉ frs X.stack := fun z => (List.mem_cons.mp (I3.stkSub px.1 z)).elim pin3.2.2.1 pin3.2.2.2.1
  have hotB : ∀ ce : Env, HotB (X.blk s3 (upd H2 D (.lst [])) scope ce fp) := fun ce => ⟨px.1, px.2, vx, handled, pin3.1, dx, cx, pin3.2.1, nst, nfp⟩
  have pg := hg s3 (upd H2 D (.lst [])) s3.heap.objs.size (cellsFrom (s3.heap.objs.size + 1) scope.names (cloFrom X.env.cells scope.names [])) fp (hotB _)
  have pt := ht s3 (upd H2 D (.lst [])) s3.heap.objs.size (cellsFrom (s3.heap.objs.size + 1) scope.names (cloFrom X.env.cells scope.names [])) fp (hotB _)
  have pe := he s3 (upd H2 D (.lst [])) s3.heap.objs.size (cellsFrom (s3.heap.objs.size + 1) scope.names (cloFrom X.env.cells scope.names [])) fp (hotB _)
  show codeAny _ _ (.compStart (.ListComp elt [⟨tg, iter, ifs, 0⟩] scope pos) 0 (.ref it) (.ref D) (compEnvC scope (cellsFrom (s3.heap.objs.size + 1) scope.names (cloFrom X.env.cells scope.names [])) s3.heap.objs.size X.env)) (compPost (model X.prog X.w) X.A X.xe use Qf (.ref D) s3.heap.objs.size)
    { s3 with heap := pushCells (s3.heap.push { cls := .type "dict", data := .dict #[] }) scope.names }
  have nofp : ∀ c ∈ fp, (upd H2 D (.lst [])) c = none := fun c hc => (f3 c hc).1.1
  have hotBB := hotB (compEnvC scope (cellsFrom (s3.heap.objs.size + 1) scope.names (cloFrom X.env.cells scope.names [])) s3.heap.objs.size X.env)
  generalize hce : compEnvC scope (cellsFrom (s3.heap.objs.size + 1) scope.names (cloFrom X.env.cells scope.names [])) s3.heap.objs.size X.env = ce at I4 pg pt pe hotBB ⊢
  have eL : ce.locals = s3.heap.objs.size := by subst hce; rfl
  generalize hH3 : upd H2 D (.lst []) = H3 at I3 I4 pg pt pe w0 nofp f3 hotBB
  generalize hs4 : ({ s3 with heap := pushCells (s3.heap.push { cls := .type "dict", data := .dict #[] }) scope.names } : Shared) = s4 at I4 ⊢
  have st4 : tn 0 s4.heap := T.keep _ _ _ st3 fun c _ o z => by rw [← hs4]; exact pushCells_keeps _ _ _ _ (Heap.get?_push_of_some _ z)
  have still : ∀ {σ' : L2.St} {H' : Hp} {s' : Shared}, Inv (X.blk s3 H3 scope ce fp) [] σ' H' s' → (∀ c ∈ fp, H' c = none) → ∀ c ∈ fp, FpOk (X.blk s3 H3 scope ce fp) [] H' c := fun {σ' H' s'} I' hn c hc =>
    ⟨hn c hc, (I'.ok.exf c hc).1, I'.ok.exfs c hc, .inl hc, fun x d z => (I'.ok.exf c hc).2 x d z, fun p hp => absurd (show p ∈ ([] : List (Addr × Obj)) ++ [] from hp) (by simp)⟩
  have loop : codeAny (model X.prog X.w) X.A (.compLoop (.ListComp elt [⟨tg, iter, ifs, 0⟩] scope pos) 0 (.ref it) (.ref D) ce) (compPost (model X.prog X.w) X.A X.xe use Qf (.ref D) s3.heap.objs.size) s4 := by
    refine compLoop_any (fun n s' => ∃ q H', Inv (X.blk s3 H3 scope ce fp) [] (wipe σ (own.map (·.2))) H' s' ∧ tn q s'.heap ∧ (∀ c ∈ fp, H' c = none) ∧ W q n H') ?_ m0 ⟨0, H3, I4, st4, nofp, w0⟩
    rintro n s5 ⟨q, H5, I5, st5, n5, w5⟩
    obtain ⟨x1, hot5, nx1⟩ := hotBB.at I5
    rcases turn q n H5 w5 with ⟨stop, qq⟩ | ⟨go, Nx, hNx, step⟩
    · refine thnF (T.done (X.blk s3 H3 scope ce fp) x1 rfl rfl rfl nx1 q [] s5 _ H5 (fun _ _ => False) hot5 I5 (still I5 n5) st5 stop) fun r s6 ⟨hr, I6⟩ => ?_
      subst hr
      have I7 : Inv X pins σ H5 s6 := I3.call' (ch := fp) I6.os I6.base I6.hok I6.bare fun c hc => ⟨(f3 c hc).1.2.2.2.1, (f3 c hc).1.2.1, (f3 c hc).1.2.2.2.2.1, (f3 c hc).1.2.2.2.2.2⟩
      have nC : H5 s3.heap.objs.size = none := by
        have z : H5 ce.locals = none := I6.free
        rw [eL] at z
        exact z
      obtain ⟨m, hn, _⟩ := I6.loc
      have hn : s6.heap.Ns ce.locals m := hn
      rw [eL] at hn
      exact ends D s3.heap.objs.size s6 m H5 I7 qq hn (I3.fpOk (Nat.le_refl _) nC)
    · refine thnF (T.item (X.blk s3 H3 scope ce fp) x1 rfl rfl rfl nx1 q [] s5 _ H5 (fun _ _ => False) hot5 I5 (still I5 n5) st5 go) fun r s6 ⟨u, hr, h6⟩ => ?_
      subst hr
      refine thnF h6 fun _ s7 ⟨x, H7, I7, r7, y7, st7, n7⟩ => ?_
      have I7' := I7.pinned (still I7 n7) (T.obj _ _ st7)
      refine thnF (pg.run _ s7 _ H7 x u _ I7' r7 (step x H7 y7)) fun _ s8 ⟨σ8, H8, I8, hw8, q8⟩ => ?_
      refine thnF (pt.run _ s8 σ8 H8 _ I8 q8) fun b s9 ⟨H9, I9, q9⟩ => ?_
      have next : ∀ {s' : Shared} {H' : Hp}, Inv (X.blk s3 H3 scope ce fp) ([] ++ pinsAt fp s7.heap) σ8 H' s' → Nx H' → ∃ m, m < n ∧ ∃ q H', Inv (X.blk s3 H3 scope ce fp) [] (wipe σ (own.map (·.2))) H' s' ∧ tn q s'.heap ∧ (∀ c ∈ fp, H' c = none) ∧ W q m H' := fun {s' H'} I' nx => by
        obtain ⟨m', hm, w'⟩ := hNx H' nx
        have pin' : ∀ c ∈ fp, ∀ o, s7.heap.get? c = some o → s'.heap.get? c = some o ∧ H' c = none := fun c hc o z =>
          let y := I'.pin (c, o) (List.mem_append_right _ (List.mem_append_right _ (mem_pinsAt hc z)))
          ⟨y.1, y.2.1⟩
        have hl : (wipe σ (own.map (·.2))).length = σ8.length := by rw [← hw8, wipe_length]
        refine ⟨m', hm, q + 1, H', (I'.unpinned (pins := [])).weak hl (fun j v z => ?_), T.keep _ _ _ st7 fun c hc o z => (pin' c hc o z).1, fun c hc => ?_, w'⟩
        · rw [← hw8] at z
          exact (wipe_some z).1
        · obtain ⟨o, z, _⟩ := T.obj _ _ st7 c hc
          exact (pin' c hc o z).2
      cases b with
      | false =>
        simp only [Bool.false_eq_true, if_false] at q9 ⊢
        exact next I9 q9
      | true =>
        simp only [if_true] at q9 ⊢
        refine thnF (pe.run _ s9 σ8 H9 _ I9 q9) fun z s10 ⟨yv, H10, I10, r10, acc, hD10, hz10, nx⟩ => ?_
        exact app_ok (X := X.blk s3 H3 scope ce fp) I10 hD10 hz10 r10 fun s11 I11 => next I11 nx
  exact codeAny_compStart_list loop (T.self X.A 0 _ _ _ st4 loop)
/-- [elt for tg in iter if ..], while an exception is handled -/
theorem pe_lcF {elt tg iter : Expr} {ifs : List Expr} {scope : Scope} {own : List (Str × Nat)} {pos : Pos} {wi : TI} {g : TG} {tt : TT} {te : TE} (hot : HotC X) (hN : X.N.Nodup) (hi : PIF X tg iter wi) (ok : BlkOk X.N X.env.scope scope own)
    (hg : ∀ (s : Shared) (H : Hp) (C : Addr) (cl : List (Str × Addr)) (fp : List Addr), HotB (X.blk s H scope (compEnvC scope cl C X.env) fp) → PG (X.blk s H scope (compEnvC scope cl C X.env) fp) tg g)
    (ht : ∀ (s : Shared) (H : Hp) (C : Addr) (cl : List (Str × Addr)) (fp : List Addr), HotB (X.blk s H scope (compEnvC scope cl C X.env) fp) → PTs (X.blk s H scope (compEnvC scope cl C X.env) fp) ifs tt)
    (he : ∀ (s : Shared) (H : Hp) (C : Addr) (cl : List (Str × Addr)) (fp : List Addr), HotB (X.blk s H scope (compEnvC scope cl C X.env) fp) → PE (X.blk s H scope (compEnvC scope cl C X.env) fp) elt te) (hs : ∀ x, foldedSetIterable iter X.env x = pure x := by intro _; rfl) :
    PE X (.ListComp elt [⟨tg, iter, ifs, 0⟩] scope pos) (tLc wi g tt te (own.map (·.2))) := by
  refine ⟨fun pins st σ H Q I hyp => ?_⟩
  rw [eval_ListComp]
  refine lcF_core hot hN I hi ok hg ht he hs hyp fun D C s' m H' I' q hn f => ⟨m, hn, fun h2 sb => ?_⟩
  obtain ⟨g0, g1, g2, g3, g4, g5⟩ := f
  exact ⟨.ref D, H', I'.turned (t' := s'.toks) (fun b o nb z => (sb.2 b nb).trans z) g0 g1 g3 g4 g5, rfl, q⟩
end
end KW

set_option Elab.async false
set_option maxRecDepth 100000
set_option maxHeartbeats 2000000
/-! The head by one run: what is read of the heap behind the top, facts by names. -/
namespace KW
open PySem PySem.Spec PyProof.Rows L2 LamX
/-- the objects at these places, tables left out -/
def frM (g : Addr → Option Obj) : List Addr → PySem.W.Frag
  | [] => []
  | b :: r => match g b with
    | none => frM g r
    | some ⟨c, d, t, s⟩ => match c, t with
      | .none, .fields _ => frM g r
      | c, t => (b, ⟨c, d, t, s⟩) :: frM g r
theorem look_cons {a b : Addr} {u o : Obj} {r : PySem.W.Frag} (e : List.lookup a ((b, u) :: r) = some o) : (a = b ∧ u = o) ∨ r.lookup a = some o := by
  rw [List.lookup_cons] at e
  split at e
  · rename_i q
    exact .inl ⟨beq_iff_eq.mp q, Option.some.inj e⟩
  · exact .inr e
theorem frM_at {g : Addr → Option Obj} {a : Addr} {o : Obj} : ∀ as : List Addr, (frM g as).lookup a = some o → g a = some o
  | [], e => nomatch (show (none : Option Obj) = some o from e)
  | b :: r, e => by
    have ih := frM_at (g := g) (a := a) (o := o) r
    unfold frM at e
    split at e
    · exact ih e
    · rename_i c d t s hb
      split at e
      · exact ih e
      · rcases look_cons e with ⟨e1, e2⟩ | e1
        · rw [e1, hb, e2]
        · exact ih e1
theorem frM_in {as : List Addr} {h : Heap} : (frM h.get? as).In h := fun _ _ e => frM_at as e
/-- what of an object is looked at next: a name space's values, a class's name space, a def's code and defaults -/
def refsM (o : Obj) : List Addr := match o.data with
  | .dict es _ => es.toList.flatMap fun e => He.refV e.val
  | .func fd => He.refV fd.code ++ He.refV fd.defaults
  | .cls cd => [cd.ns]
  | _ => (match o.dict with
    | some d => [d]
    | none => [])
def nextM (g : Addr → Option Obj) (as : List Addr) : List Addr := as.flatMap fun a => match g a with
  | some o => refsM o
  | none => []
/-- what is reached in n steps, step by step -/
def asM (g : Addr → Option Obj) : Nat → List Addr → List Addr
  | 0, as => as
  | n + 1, as => as ++ asM g n (nextM g as)
/-- one fact of the written part -/
abbrev Fct : Type := PySem.W.Frag → Bool
def obsM (fa : List Fct) (fn : List He.DefD) (K : PySem.W.Frag) : He.AlD := ((fa.all fun f => f K) && (fn.all fun d => d.ok K), fn.map fun d => He.fnW K d.at_)
def SaysM (fa : List Fct) (fn : List He.DefD) (K : PySem.W.Frag) : Prop := obsM fa fn K = He.valD fn
def obsMG (n : Nat) (fa : List Fct) (fn : List He.DefD) (g : Addr → Option Obj) : He.AlD := obsM fa fn (frM g (cStatics :: asM g n [mainGlobals]))
def hookM (n : Nat) (fa : List Fct) (fn : List He.DefD) : PySem.W.Hook where
  α := He.AlD
  obs := fun st => obsMG n fa fn st.heap.get?
  val := fun _ => He.valD fn
  says := fun _ hp => ∃ K : PySem.W.Frag, K.In hp ∧ SaysM fa fn K
  of := fun _ _ eq => ⟨_, frM_in, eq⟩
  keeps := fun _ _ _ ⟨K, inK, says⟩ kept => ⟨K, PySem.W.Frag.In.keeps inK kept, says⟩
theorem obsMG_eq {n : Nat} {fa : List Fct} {fn : List He.DefD} {g : Addr → Option Obj} {st : Shared} (h : ∀ a, g a = st.heap.get? a) : obsMG n fa fn g = (hookM n fa fn).obs st := by
  have eg : g = st.heap.get? := funext h
  rw [eg]
  rfl
section
variable {fa : List Fct} {fn : List He.DefD} {K : PySem.W.Frag}
theorem SaysM.both (c : SaysM fa fn K) : ((fa.all fun f => f K) && (fn.all fun d => d.ok K)) = true := congrArg (fun z : He.AlD => z.1) c
theorem SaysM.fact (c : SaysM fa fn K) (i : Nat) {f : Fct} (h : fa[i]? = some f) : f K = true :=
  List.all_eq_true.mp (Bool.and_eq_true_iff.mp c.both).1 f (List.mem_of_getElem? h)
theorem SaysM.dec (c : SaysM fa fn K) (i : Nat) {p : PySem.W.Frag → Prop} [inst : ∀ K, Decidable (p K)] (h : fa[i]? = some fun K => decide (p K)) : p K := of_decide_eq_true (c.fact i h)
theorem SaysM.def_ (c : SaysM fa fn K) (i : Nat) {d : He.DefD} (h : fn[i]? = some d) : ∃ fd, FunD K d.name d.qual d.params d.body d.scope (d.dvs K) (d.kws K) (He.fAd K d.at_) fd := by
  have each : fn.map (fun d => He.fnW K d.at_) = fn.map He.DefD.val := congrArg (fun z : He.AlD => z.2) c
  have one : (fn.map fun d => He.fnW K d.at_)[i]? = (fn.map He.DefD.val)[i]? := congrArg (fun l : List He.FnW => l[i]?) each
  rw [List.getElem?_map, List.getElem?_map, h] at one
  exact He.DefD.funD (Option.some.inj one) (List.all_eq_true.mp (Bool.and_eq_true_iff.mp c.both).2 d (List.mem_of_getElem? h))
end
/-- a def without defaults -/
theorem fun_of {K : PySem.W.Frag} {x qual : Str} {st : Stmt} {f : Addr} {fd : FuncData} (D : FunD K x qual (defArgs st) (defBody st) (defScope st) [] [] f fd) : Fun K x qual st f fd := by
  obtain ⟨⟨oc, od, dV, kV, doc, pm, an, cdv, ct, sl, e1, e2, e3, e4, _⟩, kp⟩ := D
  rcases e4 with ⟨_, rfl⟩ | ⟨no, _⟩
  · exact ⟨⟨oc, od, kV, doc, pm, an, cdv, ct, sl, e1, e2, e3⟩, kp⟩
  · exact absurd rfl no
/-- a class of refusals under ValueError -/
def excB (K : PySem.W.Frag) (C : Addr) : Bool := match K.lookup C with
  | some ⟨.type t, _, .cls cd, ⟨[_, _, _, _, some (.builtin n), _]⟩⟩ => decide (t = "type") && (decide (n = "ValueError.__new__") && (cd.hasDict && (!cd.hasDel && (match cd.mro with
    | .ref c :: bm => decide (c = C) && PySem.HandSPX.refsVE bm
    | _ => false))))
  | _ => false
theorem excB_ok {K : PySem.W.Frag} {C : Addr} (h : excB K C = true) : ∃ nm q N bs bm sn sub ab col dd k0 k1 k2 k3 k5, K.lookup C = some (excClassObj nm q C N bs bm true sn sub ab col dd k0 k1 k2 k3 k5 "ValueError.__new__") ∧ PySem.HandSPX.refsVE bm = true := by
  unfold excB at h
  split at h
  · rename_i t dd cd k0 k1 k2 k3 n k5 e
    simp only [Bool.and_eq_true, decide_eq_true_eq, Bool.not_eq_true'] at h
    obtain ⟨h1, h2, h3, h4, h5⟩ := h
    split at h5
    · rename_i c bm em
      simp only [Bool.and_eq_true, decide_eq_true_eq] at h5
      obtain ⟨h6, h7⟩ := h5
      obtain ⟨n1, n2, n3, n4, n5, n6, n7, n8, n9, n10, n11⟩ := cd
      subst h1 h2
      have em' : n3 = .ref c :: bm := em
      have h3' : n6 = true := h3
      have h4' : n11 = false := h4
      subst h6 em' h3' h4'
      exact ⟨_, _, _, _, _, _, _, _, _, _, _, _, _, _, _, e, h7⟩
    · cases h5
  · cases h
/-- a def whose code has an own table -/
def lawB (K : PySem.W.Frag) (f : Addr) : Bool := match K.lookup f with
  | some ⟨_, _, .func fd, _⟩ => (match fd.code with
    | .ref c => (match K.lookup c with
      | some ⟨.type t, _, .fields vs, _⟩ => decide (t = "code") && (match vs.getD 11 .none, vs.getD 18 .none, vs.getD 7 .none, vs.getD 9 .none, vs.getD 10 .none with
        | .ref p, .str _ _, .int _ _, .bool _, .int _ _ => (K.lookup p).isNone && !decide (c = p)
        | _, _, _, _, _ => false)
      | _ => false)
    | _ => false)
  | _ => false
theorem lawB_ok {K : PySem.W.Frag} {f : Addr} {oc : Value} {od : Option Addr} {fd : FuncData} {sl : Array (Option Value)} (e : K.lookup f = some ⟨oc, od, .func fd, sl⟩) (h : lawB K f = true) :
    ∃ (c p : Addr) (dC : Option Addr) (vC : Array Value) (slC : Array (Option Value)) (file : Str) (tf tg tt : Tok) (fl te : Int) (b : Bool), fd.code = .ref c ∧ K.lookup c = some ⟨.type "code", dC, .fields vC, slC⟩ ∧ vC[11]? = some (.ref p) ∧ vC.getD 11 .none = .ref p ∧ vC.getD 18 .none = .str file tf ∧
      vC.getD 7 .none = .int fl tg ∧ vC.getD 9 .none = .bool b ∧ vC.getD 10 .none = .int te tt ∧ c ≠ p ∧ K.lookup p = none := by
  unfold lawB at h
  rw [e] at h
  dsimp only at h
  split at h
  · rename_i c ec
    split at h
    · rename_i t dC vC slC el
      simp only [Bool.and_eq_true, decide_eq_true_eq] at h
      obtain ⟨h1, h2⟩ := h
      subst h1
      split at h2
      · rename_i p file tf fl tg b te tt q1 q2 q3 q4 q5
        simp only [Bool.and_eq_true, Bool.not_eq_true', decide_eq_false_iff_not, Option.isNone_iff_eq_none] at h2
        refine ⟨c, p, dC, vC, slC, file, tf, tg, tt, fl, te, b, ec, el, ?_, q1, q2, q3, q4, q5, h2.2, h2.1⟩
        rw [Array.getD_eq_getD_getElem?] at q1
        cases z : vC[11]? with
        | none =>
          rw [z] at q1
          cases q1
        | some v =>
          rw [z] at q1
          exact congrArg some q1
      · cases h2
    · cases h
  · cases h
/-- a def of a class, found by the class itself -/
def clsB (K : PySem.W.Frag) (o t : Value) (m : Str) (v : Value) : Bool := match PySem.W.findCls K o t m with
  | some (.val u) => decide (u = v)
  | _ => false
theorem clsB_ok {K : PySem.W.Frag} {o t v : Value} {m : Str} (h : clsB K o t m v = true) : PySem.W.findCls K o t m = some (.val v) := by
  unfold clsB at h
  split at h
  · rename_i u e
    rw [e, of_decide_eq_true h]
  · cases h
/-- the end, where the law holds lambdas; the written part is told by the head -/
theorem walk_own {l : PySem.W.OpenLaw} {n k : Nat} {q : Program} {loose : List Str} {XP : (Str → Option Value) → Heap → Prop} {YP : World → Heap → Prop} {d : DefRec} {x : Str}
    (most : l.most = some n) (few : n ≤ sizeLine) (nodef : d.params.defaults = []) (room : Room k callerA) (inq : ((recsOf q).any fun e => e.name == d.name) = true)
    (at_ : ∀ (w : World) (mg : Str → Option Value) (f : Addr) (hp : Heap), YP w hp → hp.Ns mainGlobals mg → mg d.name = some (.ref f) → ∃ K : PySem.W.Frag, K.In hp ∧ (OwnTab K f hp → LawAtS l w K L2.CX0 k n x mg f hp)) :
    PySem.W.WalkO q loose XP YP l.row.toRowW d [] (fun f vs => PySem.call f vs) := by
  refine Att.attach_callB most nodef fun w sa sb mg mb f ob pm cd doc a us ns ground says _ _ _ named objs are_ len bits gens => ?_
  obtain ⟨K, inK, rest⟩ := at_ w mg f _ says ground.T.g named
  have own : OwnTab K f sb.heap := by
    intro c p o1 fd1 e1 dd vs1 sl a1 a2 a3 a4 a5
    obtain ⟨dl, hd, hn⟩ := List.any_eq_true.mp inq
    obtain ⟨f2, o2, fd2, c2, p2, b1, b2, b3, b4, b5, b6⟩ := ground.T.tab dl hd
    rw [show dl.name = d.name from beq_iff_eq.mp hn, named] at b1
    cases b1
    rw [inK _ _ a1] at b2
    cases b2
    rw [a2] at b3
    cases b3
    rw [a3] at b4
    cases b4
    obtain ⟨⟨oz, vz, z1, _, z3, z4⟩, tab⟩ := b6
    rw [inK _ _ a4] at z1
    cases z1
    cases z3
    rw [a5] at z4
    cases z4
    exact tab
  obtain ⟨fd, cs, sp, t1, t2, t3, binds, keeps, ok⟩ := rest own
  exact law_callTs inK ground.T.g ground.T.b ground.T.builtins ground.T.nolimit gens t1 t2 t3 ground.T.bmain objs are_ (Nat.le_trans len few) room ok binds (fun H h1 h2 => keeps H a ns len bits h1 h2) fun _ _ _ z => z
end KW


set_option Elab.async false
set_option maxRecDepth 100000
/-! The law's drawing: bag, pull. -/
namespace KW
open PySem PySem.Spec PyProof.Rows L2
def topS (i : Nat) : Stmt := PySem.Challenge.pw_aheadfold_k09_whole_walkers_are_equal_wh.main.body.getD i (.Pass ⟨0, 0, 0, 0⟩)
abbrev sBag : Stmt := topS 29
abbrev sPull : Stmt := topS 30
theorem cut63 (ns : List Int) : cutV (ns.map V.int) none (some 63) = (ns.take 63).map V.int := by
  have e : cutV (ns.map V.int) none (some ((63 : Nat) : Int)) = (ns.take 63).map V.int := by
    unfold cutV
    rw [HT.sIx_none, HT.sIx_nat, List.length_map, List.drop_zero, Nat.sub_zero, ← List.map_take]
    congr 1
    rw [List.take_eq_take_iff]
    omega
  exact e
def spBag (K : PySem.W.Frag) : Sp := fun vs H Q _ => ∃ (a : Addr) (ns : List Int), vs = [.ref a] ∧ SqL K H a (ns.map V.int) ∧
  ∀ (H' : Hp) (b l : Addr), Same H H' → H b = none → H l = none → BagAt b l (ns.take 63) H' → Q (.ref b) H'
def spPull : Sp := fun vs H Q _ => ∃ (b l : Addr) (ns : List Int) (m : Int), vs = [.ref b, .int m] ∧ BagAt b l ns H ∧ 0 < m ∧ m < 2 ^ 100 ∧
  ∀ (H' : Hp) (r : Int), 0 ≤ r → r < m → Off b H H' → BagAt b l ns H' → Q (.int r) H'
section
variable {P : Program} {w : World} {K : PySem.W.Frag} {mg : Str → Option Value} {base : Heap}
theorem scBag : FnScope ["_law_script", "_law_seed", "_law_cell"] ["_law_script"] (defScope sBag) := ⟨rfl, rfl, rfl, by decide +kernel, rfl, by decide +kernel, by decide +kernel⟩
theorem ok_bag {f : Addr} {fd : FuncData} (F : Fun K "_law_bag" "_law_bag" sBag f fd) (mL : mg "list" = none) : FnOk P w K mg base CX0 1 f fd ["_law_script"] (spBag K) := by
  refine F.ok scBag (fun vs H Q E h => ?_) (fun cdv A outer s H vs Q E hr h => ?_)
  · obtain ⟨a, ns, rfl, _⟩ := h
    rfl
  · obtain ⟨a, ns, rfl, hS, k⟩ := h
    refine ⟨_, pss_cons (ps_set (i := 1) scBag.nd rfl (Or.inl rfl) pe_int)
      (pss_cons (ps_for PassesOwn.never rfl (pi_list (pe_slice sl_list (pv 0) po_none (po_some pe_int))) (pg_name (i := 2) scBag.nd rfl (Or.inl rfl))
        (pss_one (ps_set (i := 1) scBag.nd rfl (Or.inl rfl) (pe_op op_mod (pe_op op_add (pe_op op_add (pe_op op_mul (pv 1) pe_int) (pv 2)) pe_int) pe_int))))
      (pss_one (ps_ret (pe_lst (pa_cons (pe_callTy call_list_of (by rfl) mL (by decide +kernel) (pa_cons (pe_slice sl_list (pv 0) po_none (po_some pe_int)) pa_nil))
        (pa_cons pe_int (pa_cons pe_int (pa_cons (pv 1) (pa_cons pe_int pa_nil))))))))), ?_⟩
    refine ⟨_, rfl, 63, rfl, a, _, rfl, hS, fun p hp => ?_⟩
    have hS1 : Same H (upd H p (.lst (cutV (ns.map V.int) none (some 63)))) := fun b o e => by
      rw [upd_ne (ne_of_none e hp)]
      exact e
    refine ⟨p, rfl, ⟨_, SqL.of upd_same⟩, for_list (K := K) (a := p) (xs := (ns.take 63).map V.int) (fun i σ H' => ∃ (z : Int) (v : Option V), σ = [some (.ref a), some (.int z), v] ∧ H' = upd H p (.lst (cutV (ns.map V.int) none (some 63))))
      ⟨53, none, rfl, rfl⟩ (fun i σ H' _ ⟨_, _, _, e⟩ => ?_) ?_ ?_⟩
    · rw [e, cut63]
      exact SqL.of upd_same
    · rintro i y σ H' hi ⟨z, v, rfl, rfl⟩
      obtain ⟨u, rfl⟩ : ∃ u, y = V.int u := by
        rw [List.getElem?_map] at hi
        cases e : (ns.take 63)[i]? with
        | none =>
          rw [e] at hi
          cases hi
        | some u =>
          rw [e] at hi
          exact ⟨u, (Option.some.inj hi).symm⟩
      refine ⟨_, rfl, _, _, rfl, rfl, .inr ⟨by decide, by decide⟩, _, rfl, _, _, rfl, rfl, _, _, rfl, rfl, _, _, rfl, rfl, (by show (0 : Int) < 2147483629; decide), ?_⟩
      exact ⟨_, _, rfl, rfl⟩
    · rintro σ H' ⟨z, v, rfl, rfl⟩
      refine ⟨_, rfl, 63, rfl, a, _, rfl, hS1.seq hS, fun p2 hp2 => ?_⟩
      refine ⟨p2, _, rfl, .inl (SqL.of upd_same), fun l hl => ?_⟩
      refine ⟨_, rfl, (by show 5 ≤ sizeLine; decide), fun b hb => ?_⟩
      have hp2' : H p2 = none := hS1.free hp2
      have hl' : H l = none := by
        have q : l ≠ p2 := fun e => by
          rw [e, upd_same] at hl
          cases hl
        rw [upd_ne q] at hl
        exact hS1.free hl
      have nbl : b ≠ l := fun e => by
        rw [e, upd_same] at hb
        cases hb
      have hb1 := hb
      rw [upd_ne nbl] at hb1
      have nb2 : b ≠ p2 := fun e => by
        rw [e, upd_same] at hb1
        cases hb1
      rw [upd_ne nb2] at hb1
      refine k _ b l (fun c o e => ?_) (hS1.free hb1) hl' ⟨⟨0, 0, z, 0, upd_same, Int.le_refl _⟩, ?_, nbl⟩
      · rw [upd_ne (ne_of_none e (hS1.free hb1)), upd_ne (ne_of_none e hl'), upd_ne (ne_of_none e hp2')]
        exact hS1 _ _ e
      · rw [upd_ne nbl.symm, upd_same, cut63]
theorem scPull : FnScope ["_law_bag_here", "_law_many", "_law_rest", "_law_cell", "_law_one", "_law_two"] ["_law_bag_here", "_law_many"] (defScope sPull) := ⟨rfl, rfl, rfl, by decide +kernel, rfl, by decide +kernel, by decide +kernel⟩
theorem div_ok {z m : Int} (h : 0 < m) (h2 : m < 2 ^ 100) : CDivW z m := wide_div h (b := 100) (by omega) (by decide) (by decide)
theorem ok_pull {f : Addr} {fd : FuncData} (F : Fun K "_law_pull" "_law_pull" sPull f fd) (mLen : mg "len" = none) : FnOk P w K mg base CX0 1 f fd ["_law_bag_here", "_law_many"] spPull := by
  refine F.ok scPull (fun vs H Q E h => ?_) (fun cdv A outer s H vs Q E hr h => ?_)
  · obtain ⟨b, l, ns, m, rfl, _⟩ := h
    rfl
  · obtain ⟨b, l, ns, m, rfl, B, hm, hm2, k⟩ := h
    obtain ⟨⟨i, r, sd, c, hb, hi⟩, hl, nbl⟩ := id B
    refine ⟨_, pss_cons (ps_augS (pv 0) pe_int get_list pe_int ip_add set_list)
      (pss_cons (ps_if (pt_cmpR op_gt (pe_ix ix_list (pv 0) pe_int (fun _ _ => rfl)) pe_int (nomark _))
        (pss_cons (ps_set (i := 2) scPull.nd rfl (Or.inl rfl) (pe_ix ix_list (pv 0) pe_int (fun _ _ => rfl)))
          (pss_cons (ps_asg (pe_op op_fdivW (pv 2) (pv 1)) (pg_sub (pv 0) pe_int set_list))
            (pss_one (ps_ret (pe_op op_mod (pv 2) (pv 1)))))) pss_nil)
      (pss_cons (ps_set (i := 3) scPull.nd rfl (Or.inl rfl) (pe_ix ix_list (pv 0) pe_int (fun _ _ => rfl)))
      (C8.pss_cut (ps_if (pt_cmpR op_lt (pe_ix ix_list (pv 0) pe_int (fun _ _ => rfl)) (pe_callB call_len_seq (by rfl) mLen PySem.boot_len (pa_cons (pe_ix ix_list (pv 0) pe_int (fun _ _ => rfl)) pa_nil)) (nomark _))
        (pss_cons (ps_set (i := 3) scPull.nd rfl (Or.inl rfl) (pe_ix ix_list (pe_ix ix_list (pv 0) pe_int (fun _ _ => rfl)) (pe_ix ix_list (pv 0) pe_int (fun _ _ => rfl)) (fun _ _ => rfl)))
          (pss_one (ps_augS (pv 0) pe_int get_list pe_int ip_add set_list))) pss_nil)
      (pss_cons (ps_if (pt_cmpR op_ge (pv 3) (pe_op op_pow pe_int pe_int) (nomark _))
        (pss_cons (ps_asg (pe_op op_fdivW (pv 3) (pv 1)) (pg_sub (pv 0) pe_int set_list))
          (pss_one (ps_ret (pe_op op_mod (pv 3) (pv 1))))) pss_nil)
      (pss_cons (ps_set (i := 4) scPull.nd rfl (Or.inl rfl) (pe_op op_mod (pe_op op_add (pe_op op_add (pe_op op_add (pe_op op_mul (pv 3) pe_int) (pe_op op_mul (pe_ix ix_list (pv 0) pe_int (fun _ _ => rfl)) pe_int)) (pe_op op_mul (pe_ix ix_list (pv 0) pe_int (fun _ _ => rfl)) pe_int)) pe_int) pe_int))
      (pss_cons (ps_set (i := 5) scPull.nd rfl (Or.inl rfl) (pe_op op_mod (pe_op op_add (pe_op op_add (pe_op op_mul (pv 4) (pe_op op_add (pe_op op_mod (pv 4) pe_int) pe_int)) (pe_op op_mul (pe_ix ix_list (pv 0) pe_int (fun _ _ => rfl)) pe_int)) (pe_op op_mod (pe_ix ix_list (pv 0) pe_int (fun _ _ => rfl)) pe_int)) pe_int))
      (pss_cons (ps_asg (pe_op op_mod (pe_op op_add (pe_op op_mul (pe_ix ix_list (pv 0) pe_int (fun _ _ => rfl)) pe_int) (pv 5)) pe_int) (pg_sub (pv 0) pe_int set_list))
      (pss_one (ps_ret (pe_op op_mod (pe_op op_fdiv (pv 5) pe_int) (pv 1))))))))))), ?_⟩
    -- bag[4] += 1
    refine ⟨_, rfl, b, _, 4, _, rfl, rfl, SqL.of hb, rfl, _, _, rfl, rfl, b, _, 4, 4, rfl, rfl, hb, rfl, ?_⟩
    have hb1 : upd H b (.lst [.ref l, .int i, .int r, .int sd, .int (c + 1)]) b = some (.lst [.ref l, .int i, .int r, .int sd, .int (c + 1)]) := upd_same
    have hl1 : upd H b (.lst [.ref l, .int i, .int r, .int sd, .int (c + 1)]) l = some (.lst (ns.map V.int)) := by
      rw [upd_ne nbl.symm]
      exact hl
    -- if bag[2] > 0
    refine ⟨_, rfl, b, _, 2, _, rfl, rfl, SqL.of hb1, rfl, _, _, rfl, rfl, _, rfl, ?_⟩
    refine ite2 (fun _ => ?_) (fun _ => ?_)
    · refine ⟨_, rfl, b, _, 2, _, rfl, rfl, SqL.of hb1, rfl, _, rfl, _, rfl, _, _, rfl, rfl, div_ok hm hm2, _, rfl, b, _, 2, 2, rfl, rfl, hb1, rfl, _, rfl, _, rfl, _, _, rfl, rfl, hm, ?_⟩
      refine k _ _ (Int.emod_nonneg _ (by omega)) (Int.emod_lt_of_pos _ hm) ?_ ?_
      · exact Off.upd.trans Off.upd
      · rw [upd_upd]
        exact B.put hi
    · refine ⟨_, rfl, b, _, 3, _, rfl, rfl, SqL.of hb1, rfl, ?_⟩
      refine ⟨fun σ' H' => ∃ (z j : Int), σ' = [some (.ref b), some (.int m), none, some (.int z), none, none] ∧ H' = upd H b (.lst [.ref l, .int j, .int r, .int sd, .int (c + 1)]) ∧ 0 ≤ j, ?_, ?_⟩
      · refine ⟨_, rfl, b, _, 1, _, rfl, rfl, SqL.of hb1, rfl, _, rfl, b, _, 0, _, rfl, rfl, SqL.of hb1, rfl, l, _, rfl, .inl (SqL.of hl1), _, _, rfl, rfl, _, rfl, ?_⟩
        refine ite2 (fun hc => ?_) (fun _ => ?_)
        · have hlt : i < ((ns.map V.int).length : Int) := of_decide_eq_true hc
          rw [List.length_map] at hlt
          obtain ⟨j, rfl⟩ := Int.eq_ofNat_of_zero_le hi
          have hj : j < ns.length := by omega
          have hat : (ns.map V.int)[j]? = some (.int ns[j]) := by
            rw [List.getElem?_map, List.getElem?_eq_getElem hj]
            rfl
          refine ⟨_, rfl, b, _, 0, _, rfl, rfl, SqL.of hb1, rfl, _, rfl, b, _, 1, _, rfl, rfl, SqL.of hb1, rfl, l, _, _, _, rfl, rfl, SqL.of hl1, atI_nat hat, ?_⟩
          refine ⟨_, rfl, b, _, 1, _, rfl, rfl, SqL.of hb1, rfl, _, _, rfl, rfl, b, _, 1, 1, rfl, rfl, hb1, rfl, ?_⟩
          exact ⟨_, (j : Int) + 1, rfl, upd_upd, by omega⟩
        · exact ⟨sd, i, rfl, rfl, hi⟩
      · rintro σ' H' ⟨z, j, rfl, rfl, hj⟩
        have hb2 : upd H b (.lst [.ref l, .int j, .int r, .int sd, .int (c + 1)]) b = some (.lst [.ref l, .int j, .int r, .int sd, .int (c + 1)]) := upd_same
        refine ⟨_, rfl, _, _, rfl, rfl, ⟨by decide, by decide, by decide⟩, _, _, rfl, rfl, _, rfl, ?_⟩
        refine ite2 (fun _ => ?_) (fun _ => ?_)
        · refine ⟨_, rfl, _, rfl, _, _, rfl, rfl, div_ok hm hm2, _, rfl, b, _, 2, 2, rfl, rfl, hb2, rfl, _, rfl, _, rfl, _, _, rfl, rfl, hm, ?_⟩
          refine k _ _ (Int.emod_nonneg _ (by omega)) (Int.emod_lt_of_pos _ hm) (Off.upd.trans Off.upd) ?_
          rw [upd_upd]
          exact B.put hj
        · refine ⟨_, rfl, _, _, rfl, rfl, .inr ⟨by decide, by decide⟩, _, rfl, b, _, 3, _, rfl, rfl, SqL.of hb2, rfl, _, _, rfl, rfl, .inr ⟨by decide, by decide⟩, _, _, rfl, rfl, _, rfl, b, _, 4, _, rfl, rfl, SqL.of hb2, rfl, _, _, rfl, rfl, .inr ⟨by decide, by decide⟩, _, _, rfl, rfl, _, _, rfl, rfl, _, _, rfl, rfl, (by show (0 : Int) < 2147483629; decide), ?_⟩
          generalize hone : ((z * 48271 + sd * 40503 + (c + 1) * 69621 + 9176) % 2147483629 : Int) = one
          have h1 : 0 ≤ one := by rw [← hone]; exact Int.emod_nonneg _ (by decide)
          have h2 : one < 2147483629 := by rw [← hone]; exact Int.emod_lt_of_pos _ (by decide)
          refine ⟨_, rfl, _, rfl, _, _, rfl, rfl, (by show (0 : Int) < 65521; decide), _, _, rfl, rfl, _, _, rfl, rfl, .inl ⟨by omega, by omega⟩, _, rfl, b, _, 4, _, rfl, rfl, SqL.of hb2, rfl, _, _, rfl, rfl, .inr ⟨by decide, by decide⟩, _, _, rfl, rfl, _, rfl, b, _, 3, _, rfl, rfl, SqL.of hb2, rfl, _, _, rfl, rfl, (by show (0 : Int) < 104729; decide), _, _, rfl, rfl, _, _, rfl, rfl, (by show (0 : Int) < 998244353; decide), ?_⟩
          refine ⟨_, rfl, b, _, 3, _, rfl, rfl, SqL.of hb2, rfl, _, _, rfl, rfl, .inr ⟨by decide, by decide⟩, _, rfl, _, _, rfl, rfl, _, _, rfl, rfl, (by show (0 : Int) < 2147483563; decide), _, rfl, b, _, 3, 3, rfl, rfl, hb2, rfl, _, rfl, _, _, rfl, rfl, ⟨by decide, by decide⟩, _, rfl, _, _, rfl, rfl, hm, ?_⟩
          refine k _ _ (Int.emod_nonneg _ (by omega)) (Int.emod_lt_of_pos _ hm) (Off.upd.trans Off.upd) ?_
          rw [upd_upd]
          exact B.put hj
end
end KW


set_option Elab.async false
set_option maxRecDepth 100000
/-! The law's drawing: of, far, mixed, web. -/
namespace KW
open PySem PySem.Spec PyProof.Rows L2
/-! ### heaps -/
/-- what stood stands, but for b -/
def Grow (b : Addr) (H H' : Hp) : Prop := ∀ a o, a ≠ b → H a = some o → H' a = some o
theorem Grow.refl (b : Addr) (H : Hp) : Grow b H H := fun _ _ _ h => h
theorem Grow.trans {b : Addr} {H H1 H2 : Hp} (x : Grow b H H1) (y : Grow b H1 H2) : Grow b H H2 := fun a o n h => y a o n (x a o n h)
theorem Off.grow {b : Addr} {H H' : Hp} (x : Off b H H') : Grow b H H' := fun a o n h => (x a n).trans h
theorem Grow.new {b : Addr} {H H1 : Hp} (x : Grow b H H1) {p : Addr} {o : HO} (n : H p = none) : Grow b H (upd H1 p o) := fun a u na h => by
  rw [upd_ne (ne_of_none h n)]
  exact x a u na h
/-- what never changes: tuples, locked things -/
def Fix : HO → Prop
  | .tup _ => True
  | .frz _ _ => True
  | _ => False
/-- they stay -/
def Kp (H H' : Hp) : Prop := ∀ a o, Fix o → H a = some o → H' a = some o
theorem Kp.t {H H' : Hp} (k : Kp H H') {a : Addr} {xs : List V} (h : H a = some (.tup xs)) : H' a = some (.tup xs) := k a _ trivial h
theorem Kp.f {H H' : Hp} (k : Kp H H') {a : Addr} {xs : List V} (h : FzT H a xs) : FzT H' a xs := by
  obtain ⟨o, h, d⟩ := h
  exact ⟨o, k a _ trivial h, d⟩
theorem Kp.refl (H : Hp) : Kp H H := fun _ _ _ h => h
theorem Kp.trans {H H1 H2 : Hp} (x : Kp H H1) (y : Kp H1 H2) : Kp H H2 := fun a o f h => y a o f (x a o f h)
theorem Fix.ne {o : HO} (f : Fix o) {xs : List V} : o ≠ .lst xs := fun z => by
  subst z
  exact f
theorem Kp.off {b : Addr} {H H' : Hp} {xs : List V} (h : H b = some (.lst xs)) (x : Off b H H') : Kp H H' := fun a o f e => by
  rw [x a (ne_of e h f.ne)]
  exact e
theorem Kp.grow {b : Addr} {H H' : Hp} {xs : List V} (h : H b = some (.lst xs)) (x : Grow b H H') : Kp H H' := fun a o f e => x a _ (ne_of e h f.ne) e
theorem Kp.new {H : Hp} {p : Addr} {o : HO} (n : H p = none) : Kp H (upd H p o) := fun a u _ h => by
  rw [upd_ne (ne_of_none h n)]
  exact h
theorem Kp.put {H : Hp} {p : Addr} {xs : List V} {o : HO} (h : H p = some (.lst xs)) : Kp H (upd H p o) := fun a u f e => by
  rw [upd_ne (ne_of e h f.ne)]
  exact e
theorem BagAt.list {b l : Addr} {ns : List Int} {H : Hp} (B : BagAt b l ns H) : ∃ xs, H b = some (.lst xs) := by
  obtain ⟨⟨i, r, s, c, h, _⟩, _⟩ := B
  exact ⟨_, h⟩
theorem BagAt.new {b l : Addr} {ns : List Int} {H : Hp} (B : BagAt b l ns H) {p : Addr} {o : HO} (n : H p = none) : BagAt b l ns (upd H p o) := by
  obtain ⟨⟨i, r, s, c, h, hi⟩, hl, nbl⟩ := B
  exact ⟨⟨i, r, s, c, by rw [upd_ne (ne_of_none h n)]; exact h, hi⟩, by rw [upd_ne (ne_of_none hl n)]; exact hl, nbl⟩
/-- another list is written -/
theorem BagAt.other {b l : Addr} {ns : List Int} {H : Hp} (B : BagAt b l ns H) {p : Addr} {o : HO} (n1 : b ≠ p) (n2 : l ≠ p) : BagAt b l ns (upd H p o) := by
  obtain ⟨⟨i, r, s, c, h, hi⟩, hl, nbl⟩ := B
  exact ⟨⟨i, r, s, c, by rw [upd_ne n1]; exact h, hi⟩, by rw [upd_ne n2]; exact hl, nbl⟩
theorem BagAt.nb {b l : Addr} {ns : List Int} {H : Hp} (B : BagAt b l ns H) {p : Addr} (n : H p = none) : b ≠ p := by
  obtain ⟨xs, h⟩ := B.list
  exact ne_of_none h n
theorem BagAt.nl {b l : Addr} {ns : List Int} {H : Hp} (B : BagAt b l ns H) {p : Addr} (n : H p = none) : l ≠ p := ne_of_none B.2.1 n
/-! ### pairs -/
def IsP (H : Hp) (v : V) (p : Nat × Nat) : Prop := ∃ a, v = .ref a ∧ H a = some (.tup [.int p.1, .int p.2])
abbrev PairsIn (H : Hp) (as : List V) (ps : List (Nat × Nat)) : Prop := Paired (IsP H) as ps
theorem IsP.kp {H H' : Hp} {v : V} {p : Nat × Nat} (k : Kp H H') (h : IsP H v p) : IsP H' v p := by
  obtain ⟨a, e, h⟩ := h
  exact ⟨a, e, k.t h⟩
theorem PairsIn.kp {H H' : Hp} (k : Kp H H') : ∀ {as : List V} {ps : List (Nat × Nat)}, PairsIn H as ps → PairsIn H' as ps
  | _, _, .nil => .nil
  | _, _, .cons a r => .cons (a.kp k) (PairsIn.kp k r)
theorem paired_snoc {α β : Type} {R : α → β → Prop} : ∀ {as : List α} {bs : List β} {a : α} {b : β}, Paired R as bs → R a b → Paired R (as ++ [a]) (bs ++ [b])
  | _, _, _, _, .nil, h => .cons h .nil
  | _, _, _, _, .cons x r, h => .cons x (paired_snoc r h)
theorem paired_perm {α β : Type} {R : α → β → Prop} {xs ys : List α} (h : ys.Perm xs) : ∀ {bs : List β}, Paired R xs bs → ∃ cs, Paired R ys cs ∧ cs.Perm bs := by
  induction h with
  | nil => intro bs r; cases r; exact ⟨[], .nil, .nil⟩
  | cons x p ih =>
    intro bs r
    cases r with
    | cons a r =>
      obtain ⟨cs, h1, h2⟩ := ih r
      exact ⟨_, .cons a h1, h2.cons _⟩
  | swap x y l =>
    intro bs r
    cases r with
    | cons a r =>
      cases r with
      | cons a' r => exact ⟨_, .cons a' (.cons a r), .swap ..⟩
  | trans p q ih1 ih2 =>
    intro bs r
    obtain ⟨cs, h1, h2⟩ := ih2 r
    obtain ⟨ds, h3, h4⟩ := ih1 h1
    exact ⟨ds, h3, h4.trans h2⟩
theorem erase_perm {α : Type} : ∀ {xs : List α} {k : Nat} {y : α}, xs[k]? = some y → (y :: xs.eraseIdx k).Perm xs
  | [], k, y, h => by simp at h
  | x :: xs, 0, y, h => by
    have e : x = y := by simpa using h
    subst e
    exact List.Perm.refl _
  | x :: xs, k + 1, y, h => by
    have ih := erase_perm (xs := xs) (k := k) (y := y) (by simpa using h)
    show (y :: x :: xs.eraseIdx k).Perm (x :: xs)
    exact (List.Perm.swap ..).trans (ih.cons x)
/-- n rooms, arrows ps, an arrow out of each room -/
def Good (n : Nat) (ps : List (Nat × Nat)) : Prop := 1 ≤ n ∧ (∀ p ∈ ps, p.1 < n ∧ p.2 < n) ∧ ∀ r, r < n → ∃ p ∈ ps, p.1 = r
def WebT (H : Hp) (t : Addr) (n : Nat) (ps : List (Nat × Nat)) : Prop := ∃ q as, H t = some (.tup [.int n, .ref q]) ∧ FzT H q as ∧ PairsIn H as ps ∧ Good n ps
theorem WebT.kp {H H' : Hp} (k : Kp H H') {t n ps} (h : WebT H t n ps) : WebT H' t n ps := by
  obtain ⟨q, as, h1, h2, h3, h4⟩ := h
  exact ⟨q, as, k.t h1, k.f h2, PairsIn.kp k h3, h4⟩
theorem WebT.two {H : Hp} {t q n ps} {m : Int} (h : WebT H t n ps) (e : H t = some (.tup [.int m, .ref q])) : m = n ∧ ∃ as, FzT H q as ∧ PairsIn H as ps := by
  obtain ⟨q', as, h1, h2, h3, h4⟩ := h
  rw [h1] at e
  cases e
  exact ⟨rfl, as, h2, h3⟩
/-! ### promises -/
abbrev sMixed : Stmt := topS 32
abbrev sWeb : Stmt := topS 33
def spMixed (K : PySem.W.Frag) : Sp := fun vs H Q _ => ∃ (b l a : Addr) (ns : List Int) (xs : List V), vs = [.ref b, .ref a] ∧ BagAt b l ns H ∧ SqL K H a xs ∧ xs.length ≤ 1000 ∧
  ∀ (H' : Hp) (p : Addr) (ys : List V), Grow b H H' → H p = none → H' p = some (.lst ys) → ys.Perm xs → BagAt b l ns H' → Q (.ref p) H'
def spWeb : Sp := fun vs H Q _ => ∃ (b l : Addr) (ns : List Int) (rm mm : Nat), vs = [.ref b, .int rm, .int mm] ∧ BagAt b l ns H ∧ 1 ≤ rm ∧ rm ≤ 100 ∧ mm ≤ 100 ∧
  ∀ (H' : Hp) (t : Addr) (n : Nat) (ps : List (Nat × Nat)), Grow b H H' → WebT H' t n ps → n ≤ rm → ps.length ≤ rm + mm → BagAt b l ns H' → Q (.ref t) H'
section
variable {P : Program} {w : World} {K : PySem.W.Frag} {mg : Str → Option Value} {base : Heap}
theorem scMixed : FnScope ["_law_bag_here", "_law_some", "_law_left", "_law_found", "_law_k"] ["_law_bag_here", "_law_some"] (defScope sMixed) := ⟨rfl, rfl, rfl, by decide +kernel, rfl, by decide +kernel, by decide +kernel⟩
theorem ok_mixed {f fP : Addr} {fd fdP : FuncData} (F : Fun K "_law_mixed" "_law_mixed" sMixed f fd) (GP : FnOk P w K mg base CX0 1 fP fdP ["_law_bag_here", "_law_many"] spPull) (bP : Binds K fdP ["_law_bag_here", "_law_many"] []) (mP : mg "_law_pull" = some (.ref fP)) (kP : PySem.W.keepIn K (.ref fP) = true)
    (mLen : mg "len" = none) (mList : mg "list" = none) (mRange : mg "range" = none) : FnOk P w K mg base CX0 2 f fd ["_law_bag_here", "_law_some"] (spMixed K) := by
  refine F.ok scMixed (fun vs H Q E h => ?_) (fun cdv A outer s H vs Q E hr h => ?_)
  · obtain ⟨b, l, a, ns, xs, rfl, _⟩ := h
    rfl
  · obtain ⟨b, l, a, ns, xs, rfl, B, hS, hlen, k⟩ := h
    refine ⟨_, pss_cons (ps_par (by rfl) scMixed.nd (i := 2) (j := 3) rfl rfl (by decide) rfl rfl (pa_cons (pe_callTy call_list_of (by rfl) mList (by decide +kernel) (pa_cons (pv 1) pa_nil)) (pa_cons (pe_lst pa_nil) pa_nil)) (by rfl))
      (pss_cons (ps_for PassesOwn.never rfl (pi_range1 (by rfl) mRange (pa_cons (pe_callB call_len_seq (by rfl) mLen PySem.boot_len (pa_cons (pv 1) pa_nil)) pa_nil)) (pg_name (i := 4) scMixed.nd rfl (Or.inl rfl))
        (pss_one (ps_expr (pe_bm PySem.F.plainAttrs_list PySem.F.slot_list_append PySem.F.type_list_append mt_append (pv 3) (pa_cons
          (pe_bm PySem.F.plainAttrs_list PySem.F.slot_list_pop PySem.F.type_list_pop mt_popAt (pv 2) (pa_cons
            (pe_call GP hr rfl mP kP bP .nil pass0 (pa_cons (pv 0) (pa_cons (pe_callB call_len_seq (by rfl) mLen PySem.boot_len (pa_cons (pv 2) pa_nil)) pa_nil))) pa_nil)) pa_nil)))))
      (pss_one (ps_ret (pv 3)))), ?_⟩
    refine ⟨_, rfl, a, xs, rfl, .inl hS, fun lf hlf => ⟨Nat.zero_le _, fun fd' hfd => ⟨_, _, rfl, ?_⟩⟩⟩
    have nfl : fd' ≠ lf := fun e => by
      rw [e, upd_same] at hfd
      cases hfd
    have hfd0 : H fd' = none := by
      rw [upd_ne nfl] at hfd
      exact hfd
    have S2 : Same H (upd (upd H lf (.lst xs)) fd' (.lst [])) := fun c o e => by
      rw [upd_ne (ne_of_none e hfd0), upd_ne (ne_of_none e hlf)]
      exact e
    have G2 : Grow b H (upd (upd H lf (.lst xs)) fd' (.lst [])) := fun c o _ e => S2 c o e
    refine ⟨_, rfl, a, xs, rfl, .inl (S2.seq hS), _, rfl, by omega, by omega, for_range (lo := 0) (n := xs.length) (fun i σ H' => ∃ (v : Option V) (L Fo : List V), σ = [some (.ref b), some (.ref a), some (.ref lf), some (.ref fd'), v] ∧ H' lf = some (.lst L) ∧ H' fd' = some (.lst Fo) ∧
        (Fo ++ L).Perm xs ∧ Fo.length = i ∧ BagAt b l ns H' ∧ Grow b H H')
      ⟨none, xs, [], rfl, by rw [upd_ne nfl.symm, upd_same], upd_same, List.Perm.refl _, rfl, (B.new hlf).new hfd, G2⟩ ?_ ?_⟩
    · rintro i σ H' hi ⟨v, L, Fo, rfl, hL, hF, hp, hfl, B', G'⟩
      have hll : Fo.length + L.length = xs.length := by
        have := hp.length_eq
        rw [List.length_append] at this
        exact this
      have nbl : b ≠ lf := B.nb hlf
      have nbf : b ≠ fd' := B.nb hfd0
      have nll : l ≠ lf := B.nl hlf
      have nlf : l ≠ fd' := B.nl hfd0
      refine ⟨_, rfl, .inl ⟨rfl, _, SqL.of hF⟩, _, rfl, .inl ⟨rfl, _, SqL.of hL⟩, _, rfl, _, rfl, lf, _, rfl, .inl (SqL.of hL), b, l, ns, _, rfl, B', by omega, by omega, fun H2 r h0 h1 O2 B2 => ?_⟩
      have hL2 : H2 lf = some (.lst L) := by rw [O2 lf nbl.symm]; exact hL
      have hF2 : H2 fd' = some (.lst Fo) := by rw [O2 fd' nbf.symm]; exact hF
      obtain ⟨j, rfl⟩ := Int.eq_ofNat_of_zero_le h0
      have hj : j < L.length := by omega
      have hat : L[j]? = some L[j] := List.getElem?_eq_getElem hj
      have hsq : seqIndex? ((j : Nat) : Int) L.length = some j := by
        rw [seqIndex_of (by omega) (by omega)]
        rfl
      refine ⟨lf, _, _, j, _, rfl, rfl, hL2, by omega, by omega, hsq, hat, fd', _, _, rfl, rfl, Eq.trans (upd_ne nfl) hF2, by rw [sizeLine_eq]; omega, ?_⟩
      refine ⟨_, L.eraseIdx j, Fo ++ [L[j]], rfl, by rw [upd_ne nfl.symm, upd_same], upd_same, ?_, by simp [hfl], (B2.other nbl nll).other nbf nlf, ((G'.trans O2.grow).new hlf).new hfd0⟩
      rw [List.append_assoc]
      exact ((erase_perm hat).append_left Fo).trans hp
    · rintro σ H' ⟨v, L, Fo, rfl, hL, hF, hp, hfl, B', G'⟩
      have hll : L = [] := by
        have := hp.length_eq
        rw [List.length_append] at this
        exact List.length_eq_zero_iff.mp (by omega)
      subst hll
      rw [List.append_nil] at hp
      exact ⟨_, rfl, k H' fd' Fo G' hfd0 hF hp B'⟩
end
end KW


set_option Elab.async false
set_option maxRecDepth 100000
/-! The law's drawing: a web. -/
namespace KW
open PySem PySem.Spec PyProof.Rows L2
theorem good_perm {n : Nat} {ps qs : List (Nat × Nat)} (h : qs.Perm ps) (g : Good n ps) : Good n qs := by
  obtain ⟨h1, h2, h3⟩ := g
  refine ⟨h1, fun p hp => h2 p (h.mem_iff.mp hp), fun r hr => ?_⟩
  obtain ⟨p, hp, e⟩ := h3 r hr
  exact ⟨p, h.mem_iff.mpr hp, e⟩
section
variable {P : Program} {w : World} {K : PySem.W.Frag} {mg : Str → Option Value} {base : Heap}
theorem scWeb : FnScope ["_law_bag_here", "_law_rooms_most", "_law_more_most", "_law_rooms", "_law_pairs", "_law_k", "_law_room"] ["_law_bag_here", "_law_rooms_most", "_law_more_most"] (defScope sWeb) := ⟨rfl, rfl, rfl, by decide +kernel, rfl, by decide +kernel, by decide +kernel⟩
theorem ok_web {f fP fM : Addr} {fd fdP fdM : FuncData} (F : Fun K "_law_web" "_law_web" sWeb f fd) (GP : FnOk P w K mg base CX0 1 fP fdP ["_law_bag_here", "_law_many"] spPull) (bP : Binds K fdP ["_law_bag_here", "_law_many"] []) (mP : mg "_law_pull" = some (.ref fP)) (kP : PySem.W.keepIn K (.ref fP) = true)
    (GM : FnOk P w K mg base CX0 2 fM fdM ["_law_bag_here", "_law_some"] (spMixed K)) (bM : Binds K fdM ["_law_bag_here", "_law_some"] []) (mM : mg "_law_mixed" = some (.ref fM)) (kM : PySem.W.keepIn K (.ref fM) = true)
    (mRange : mg "range" = none) (mTuple : mg "tuple" = none) : FnOk P w K mg base CX0 3 f fd ["_law_bag_here", "_law_rooms_most", "_law_more_most"] spWeb := by
  refine F.ok scWeb (fun vs H Q E h => ?_) (fun cdv A outer s H vs Q E hr h => ?_)
  · obtain ⟨b, l, ns, rm, mm, rfl, _⟩ := h
    rfl
  · obtain ⟨b, l, ns, rm, mm, rfl, B, hrm, hrm2, hmm, k⟩ := h
    have hr1 : Room 1 _ := hr.mono (by decide)
    refine ⟨_, pss_cons (ps_set (i := 3) scWeb.nd rfl (Or.inr rfl) (pe_op op_add pe_int (pe_call GP hr1 rfl mP kP bP .nil pass0 (pa_cons (pv 0) (pa_cons (pv 1) pa_nil)))))
      (pss_cons (ps_setLc (i := 4) (own := [("_law_room", 6)]) (g := gName 6) (tt := tYes) rfl scWeb.nd rfl rfl (sw_true rfl rfl rfl (by decide +kernel)) (pi_range1 (by rfl) mRange (pa_cons (pv 3) pa_nil))
          (blkOk_by (own := [("_law_room", 6)]) (N := ["_law_bag_here", "_law_rooms_most", "_law_more_most", "_law_rooms", "_law_pairs", "_law_k", "_law_room"]) (sc := defScope sWeb) (by decide +kernel))
          (fun _ _ _ _ _ => pg_name (i := 6) scWeb.nd rfl (Or.inl rfl)) (fun _ _ _ _ _ => pts_nil)
          (fun _ _ _ _ _ => pe_tup (pa_cons (pv 6) (pa_cons (pe_call GP hr1 rfl mP kP bP .nil pass0 (pa_cons (pv 0) (pa_cons (pv 3) pa_nil))) pa_nil))))
      (pss_cons (ps_for PassesOwn.never rfl (pi_range1 (by rfl) mRange (pa_cons (pe_call GP hr1 rfl mP kP bP .nil pass0 (pa_cons (pv 0) (pa_cons (pe_op op_add (pv 2) pe_int) pa_nil))) pa_nil)) (pg_name (i := 5) scWeb.nd rfl (Or.inl rfl))
        (pss_one (ps_expr (pe_bm PySem.F.plainAttrs_list PySem.F.slot_list_append PySem.F.type_list_append mt_append (pv 4) (pa_cons
          (pe_tup (pa_cons (pe_call GP hr1 rfl mP kP bP .nil pass0 (pa_cons (pv 0) (pa_cons (pv 3) pa_nil))) (pa_cons (pe_call GP hr1 rfl mP kP bP .nil pass0 (pa_cons (pv 0) (pa_cons (pv 3) pa_nil))) pa_nil))) pa_nil)))))
      (pss_one (ps_ret (pe_tup (pa_cons (pv 3) (pa_cons (pe_callTy call_tupleF (by rfl) mTuple (by decide +kernel) (pa_cons (pe_call GM hr rfl mM kM bM .nil pass0 (pa_cons (pv 0) (pa_cons (pv 4) pa_nil))) pa_nil)) pa_nil))))))), ?_⟩
    -- rooms
    refine ⟨_, rfl, _, rfl, b, l, ns, _, rfl, B, by omega, by omega, fun H1 r1 h0 h1 O1 B1 => ?_⟩
    obtain ⟨j, rfl⟩ := Int.eq_ofNat_of_zero_le h0
    obtain ⟨n, hn⟩ : ∃ n : Nat, n = 1 + j := ⟨_, rfl⟩
    have hnn : ((1 : Int) + (j : Int)) = (n : Int) := by omega
    refine ⟨_, _, rfl, rfl, ?_⟩
    dsimp only
    rw [hnn]
    -- pairs
    refine ⟨_, rfl, _, rfl, by omega, by omega, fun D hD => ?_⟩
    refine lc_range (lo := 0) (n := n) (fun i H' => ∃ (as : List V) (ps : List (Nat × Nat)), H' D = some (.lst as) ∧ PairsIn H' as ps ∧ ps.map (·.1) = List.range i ∧ (∀ p ∈ ps, p.1 < n ∧ p.2 < n) ∧ BagAt b l ns H' ∧ Grow b H1 H')
      ⟨[], [], upd_same, .nil, rfl, fun p hp => absurd hp (by simp), B1.new hD, (Grow.refl b H1).new hD⟩ ?_ ?_
    · rintro i H' hi ⟨as, ps, hA, hP, hps, hb, B', G'⟩
      refine ⟨rfl, _, rfl, _, rfl, _, rfl, b, l, ns, _, rfl, B', by omega, by omega, fun H2 r h0 h1 O2 B2 => ⟨by show 2 ≤ sizeLine; decide, fun T hT => ?_⟩⟩
      obtain ⟨m, rfl⟩ := Int.eq_ofNat_of_zero_le h0
      have nbD : b ≠ D := B1.nb hD
      have nlD : l ≠ D := B1.nl hD
      have hA2 : H2 D = some (.lst as) := by rw [O2 D nbD.symm]; exact hA
      have nDT : D ≠ T := ne_of_none hA2 hT
      obtain ⟨xs, hbl⟩ := B'.list
      have hlen : as.length = i := by
        rw [Paired.length hP, ← List.length_map (f := (·.1)), hps, List.length_range]
      refine ⟨as, Eq.trans (upd_ne nDT) hA2, by rw [sizeLine_eq]; omega, as ++ [.ref T], ps ++ [(i, m)], upd_same, ?_, ?_, ?_, (B2.new hT).other nbD nlD, ?_⟩
      · have k1 : Kp H' (upd (upd H2 T (.tup [.int (0 + (i : Nat)), .int (m : Nat)])) D (.lst (as ++ [.ref T]))) := ((Kp.off hbl O2).trans (Kp.new hT)).trans (Kp.put (Eq.trans (upd_ne nDT) hA2))
        refine paired_snoc (PairsIn.kp k1 hP) ⟨T, rfl, ?_⟩
        rw [upd_ne nDT.symm, upd_same]
        show some (HO.tup [.int (0 + (i : Int)), .int (m : Int)]) = some (HO.tup [.int (i : Int), .int (m : Int)])
        rw [Int.zero_add]
      · rw [List.map_append, hps, List.range_succ]
        rfl
      · intro p hp
        rcases List.mem_append.mp hp with q | q
        · exact hb p q
        · have e : p = (i, m) := by simpa using q
          subst e
          exact ⟨hi, by omega⟩
      · intro a o na e
        have nT : H1 T = none := by
          cases q : H1 T with
          | none => rfl
          | some u =>
            have nTb : T ≠ b := fun z => by
              obtain ⟨ys, hy⟩ := B2.list
              rw [z, hy] at hT
              cases hT
            have := O2.grow T u nTb (G' T u nTb q)
            rw [this] at hT
            cases hT
        rw [upd_ne (ne_of_none e hD), upd_ne (ne_of_none e nT)]
        exact O2.grow a o na (G' a o na e)
    · rintro H2 ⟨as, ps, hA, hP, hps, hb, B2, G2⟩
      have hbD : H1 D = none := hD
      have nbD : b ≠ D := B1.nb hD
      have nlD : l ≠ D := B1.nl hD
      have hpl : ps.length = n := by rw [← List.length_map (f := (·.1)), hps, List.length_range]
      refine ⟨_, rfl, _, rfl, _, _, rfl, rfl, b, l, ns, _, rfl, B2, by omega, by omega, fun H3 r3 h0 h3 O3 B3 => ?_⟩
      obtain ⟨m, rfl⟩ := Int.eq_ofNat_of_zero_le h0
      obtain ⟨x2, hx2⟩ := B2.list
      have hA3 : H3 D = some (.lst as) := by rw [O3 D nbD.symm]; exact hA
      refine ⟨_, rfl, by omega, by omega, for_range (lo := 0) (n := m) (fun i σ H' => ∃ (v : Option V) (as : List V) (ps : List (Nat × Nat)), σ = [some (.ref b), some (.int rm), some (.int mm), some (.int n), some (.ref D), v, none] ∧ H' D = some (.lst as) ∧ PairsIn H' as ps ∧ Good n ps ∧ ps.length ≤ n + i ∧ BagAt b l ns H' ∧ Grow b H1 H')
        ⟨none, as, ps, rfl, hA3, PairsIn.kp (Kp.off hx2 O3) hP, ⟨by omega, hb, fun r hr' => ?_⟩, by omega, B3, G2.trans O3.grow⟩ ?_ ?_⟩
      · have hm : r ∈ ps.map (·.1) := by rw [hps]; exact List.mem_range.mpr hr'
        obtain ⟨p, hp, e⟩ := List.mem_map.mp hm
        exact ⟨p, hp, e⟩
      · rintro i σ H' hi ⟨v, as, ps, rfl, hA, hP, hG, hl, B', G'⟩
        refine ⟨_, rfl, .inl ⟨rfl, _, SqL.of hA⟩, _, rfl, _, rfl, b, l, ns, _, rfl, B', by omega, by omega, fun H4 r4 h04 h4 O4 B4 => ?_⟩
        refine ⟨_, rfl, _, rfl, b, l, ns, _, rfl, B4, by omega, by omega, fun H5 r5 h05 h5 O5 B5 => ⟨by show 2 ≤ sizeLine; decide, fun T hT => ?_⟩⟩
        obtain ⟨u, rfl⟩ := Int.eq_ofNat_of_zero_le h04
        obtain ⟨v5, rfl⟩ := Int.eq_ofNat_of_zero_le h05
        have hA5 : H5 D = some (.lst as) := by rw [O5 D nbD.symm, O4 D nbD.symm]; exact hA
        have nDT : D ≠ T := ne_of_none hA5 hT
        obtain ⟨x4, hx4⟩ := B'.list
        obtain ⟨x5, hx5⟩ := B4.list
        have hlen : as.length = ps.length := Paired.length hP
        have k1 : Kp H' (upd (upd H5 T (.tup [.int (u : Nat), .int (v5 : Nat)])) D (.lst (as ++ [.ref T]))) := (((Kp.off hx4 O4).trans (Kp.off hx5 O5)).trans (Kp.new hT)).trans (Kp.put (Eq.trans (upd_ne nDT) hA5))
        refine ⟨D, as, _, rfl, rfl, Eq.trans (upd_ne nDT) hA5, by rw [sizeLine_eq]; omega, ?_⟩
        refine ⟨_, as ++ [.ref T], ps ++ [(u, v5)], rfl, upd_same, paired_snoc (PairsIn.kp k1 hP) ⟨T, rfl, by rw [upd_ne nDT.symm, upd_same]⟩, ⟨hG.1, ?_, fun r hr' => ?_⟩, by rw [List.length_append, List.length_singleton]; omega, (B5.new hT).other nbD nlD, ?_⟩
        · intro p hp
          rcases List.mem_append.mp hp with q | q
          · exact hG.2.1 p q
          · have e : p = (u, v5) := by simpa using q
            subst e
            exact ⟨by omega, by omega⟩
        · obtain ⟨p, hp, e⟩ := hG.2.2 r hr'
          exact ⟨p, List.mem_append_left _ hp, e⟩
        · intro a o na e
          have e5 : H5 a = some o := O5.grow a o na (O4.grow a o na (G' a o na e))
          rw [upd_ne (ne_of_none e hbD), upd_ne (ne_of_none e5 hT)]
          exact e5
      · rintro σ H' ⟨v, as, ps, rfl, hA, hP, hG, hl, B', G'⟩
        have hlen : as.length = ps.length := Paired.length hP
        refine ⟨_, rfl, _, rfl, _, rfl, b, l, D, ns, as, rfl, B', SqL.of hA, by omega, fun H6 p6 ys G6 n6 h6 hperm B6 => ?_⟩
        refine ⟨p6, ys, rfl, SqL.of h6, fun q oq hq hdq => ⟨by show 2 ≤ sizeLine; decide, fun t ht => ?_⟩⟩
        obtain ⟨x6, hx6⟩ := B'.list
        obtain ⟨qs, hq1, hq2⟩ := paired_perm hperm (PairsIn.kp (Kp.grow hx6 G6) hP)
        have nqt : q ≠ t := fun e => by
          rw [← e, upd_same] at ht
          cases ht
        have ht6 : H6 t = none := by
          rw [upd_ne nqt.symm] at ht
          exact ht
        refine k _ t n qs ?_ ⟨q, ys, upd_same, ⟨oq, by rw [upd_ne nqt, upd_same], hdq⟩, PairsIn.kp ((Kp.new hq).trans (Kp.new ht)) hq1, good_perm hq2 hG⟩ (by omega) (by rw [hq2.length_eq]; omega) ((B6.new hq).new ht)
        intro a o na e
        have e6 : H6 a = some o := G6 a o na (G' a o na (O1.grow a o na e))
        rw [upd_ne (ne_of_none e6 ht6), upd_ne (ne_of_none e6 hq)]
        exact e6
end
end KW


set_option Elab.async false
set_option maxRecDepth 100000
/-! The program's webs: is_pair, pairs_of, gathered. -/
namespace KW
open PySem PySem.Spec PyProof.Rows L2
abbrev sIsPair : Stmt := topS 24
abbrev sPairsOf : Stmt := topS 25
abbrev sGathered : Stmt := topS 26
theorem IsR.kp {H H' : Hp} {v : V} {l : List Nat} (k : Kp H H') (h : IsR H v l) : IsR H' v l := by
  obtain ⟨a, e, h⟩ := h
  exact ⟨a, e, k.t h⟩
theorem RowsIn.kp {H H' : Hp} (k : Kp H H') : ∀ {vs : List V} {ls : List (List Nat)}, RowsIn H vs ls → RowsIn H' vs ls
  | _, _, .nil => .nil
  | _, _, .cons a r => .cons (a.kp k) (RowsIn.kp k r)
theorem Same.kp {H H' : Hp} (s : Same H H') : Kp H H' := fun a o _ h => s a o h
theorem same_new {H H1 : Hp} (s : Same H H1) {p : Addr} {o : HO} (n : H1 p = none) : Same H (upd H1 p o) := fun a u h => by
  rw [upd_ne (ne_of_none (s a u h) n)]
  exact s a u h
theorem same_put {H H1 : Hp} (s : Same H H1) {p : Addr} {o : HO} (n : H p = none) : Same H (upd H1 p o) := fun a u h => by
  rw [upd_ne (ne_of_none h n)]
  exact s a u h
theorem paired_at {α β : Type} {R : α → β → Prop} : ∀ {as : List α} {bs : List β} {i : Nat} {a : α}, Paired R as bs → as[i]? = some a → ∃ b, bs[i]? = some b ∧ R a b
  | _, _, _, _, .nil, h => by simp at h
  | _, _, 0, _, .cons x r, h => by
    simp at h
    subst h
    exact ⟨_, rfl, x⟩
  | _, _, i + 1, a, .cons x r, h => by
    obtain ⟨b, h1, h2⟩ := paired_at (i := i) (a := a) r (by simpa using h)
    exact ⟨b, by simpa using h1, h2⟩
/-! ### promises -/
def spIsPair (K : PySem.W.Frag) : Sp := fun vs H Q _ => ∃ (a : Addr) (n x y : Nat), vs = [.ref a, .int n] ∧ (SqL K H a [.int x, .int y] ∨ SqT K H a [.int x, .int y]) ∧ x < n ∧ y < n ∧ Q (.bl true) H
def PairL (K : PySem.W.Frag) (H : Hp) (v : V) (p : Nat × Nat) : Prop := ∃ a, v = .ref a ∧ (SqL K H a [.int p.1, .int p.2] ∨ SqT K H a [.int p.1, .int p.2])
def spPairsOf (K : PySem.W.Frag) : Sp := fun vs H Q _ => ∃ (a : Addr) (n : Nat) (as : List V) (ps : List (Nat × Nat)), vs = [.int n, .ref a] ∧ SqL K H a as ∧ Paired (PairL K H) as ps ∧ (∀ p ∈ ps, p.1 < n ∧ p.2 < n) ∧ ps.length ≤ 400 ∧
  ∀ (H' : Hp) (q : Addr) (bs : List V), Same H H' → FzT H' q bs → PairsIn H' bs ps → Q (.ref q) H'
def spGathered (K : PySem.W.Frag) : Sp := fun vs H Q _ => ∃ (a : Addr) (n : Nat) (ps : List Nat), vs = [.int n, .ref a] ∧ SqL K H a (nums ps) ∧ (∀ p ∈ ps, p < n) ∧ n ≤ 1000 ∧ ps.length ≤ 1000 ∧
  ∀ (H' : Hp) (q : Addr) (bs : List V), Same H H' → H' q = some (.tup bs) → RowsIn H' bs (gat n ps) → Q (.ref q) H'
theorem PairL.same {K : PySem.W.Frag} {H H' : Hp} {v : V} {p : Nat × Nat} (s : Same H H') (h : PairL K H v p) : PairL K H' v p := by
  obtain ⟨a, e, h⟩ := h
  refine ⟨a, e, ?_⟩
  rcases h with h | h
  · exact .inl (s.seq h)
  · rcases h with (h | ⟨o, h⟩) | h
    · exact .inr (.inl (.inl (s _ _ h)))
    · exact .inr (.inl (.inr ⟨o, s _ _ h⟩))
    · exact .inr (.inr h)
section
variable {P : Program} {w : World} {K : PySem.W.Frag} {mg : Str → Option Value} {base : Heap}
theorem scIsPair : FnScope ["thing", "rooms"] ["thing", "rooms"] (defScope sIsPair) := ⟨rfl, rfl, rfl, by decide +kernel, rfl, by decide +kernel, by decide +kernel⟩
theorem ok_is_pair {f : Addr} {fd : FuncData} (F : Fun K "is_pair" "is_pair" sIsPair f fd) (mLen : mg "len" = none) : FnOk P w K mg base CX0 1 f fd ["thing", "rooms"] (spIsPair K) := by
  refine F.ok scIsPair (fun vs H Q E h => ?_) (fun cdv A outer s H vs Q E hr h => ?_)
  · obtain ⟨a, n, x, y, rfl, _⟩ := h
    rfl
  · obtain ⟨a, n, x, y, rfl, hS, hx, hy, k⟩ := h
    refine ⟨_, pss_one (ps_ret (pe_and (pe_cmpR op_eq (pe_callB call_len_seq (by rfl) mLen PySem.boot_len (pa_cons (pv 0) pa_nil)) pe_int (nomark _))
      (pe_and (pe_chain op_le op_lt pe_int (pe_ix ix_seq (pv 0) pe_int (fun _ _ => rfl)) (pv 1))
        (pe_one (pe_chain op_le op_lt pe_int (pe_ix ix_seq (pv 0) pe_int (fun _ _ => rfl)) (pv 1)))))), ?_⟩
    have d1 : decide ((0 : Int) ≤ (x : Int)) = true := decide_eq_true (by omega)
    have d2 : decide ((0 : Int) ≤ (y : Int)) = true := decide_eq_true (by omega)
    have d3 : decide ((x : Int) < (n : Int)) = true := decide_eq_true (by omega)
    have d4 : decide ((y : Int) < (n : Int)) = true := decide_eq_true (by omega)
    have i0 : ∀ {Q' : VK}, Q' (.int (x : Int)) H → rIx K (.ref a) (.int 0) H Q' := fun {Q'} q => by
      rcases hS with h | h
      · exact .inl ⟨a, _, 0, _, rfl, rfl, h, rfl, q⟩
      · exact .inr (.inl ⟨a, _, 0, _, rfl, rfl, h, rfl, q⟩)
    have i1 : ∀ {Q' : VK}, Q' (.int (y : Int)) H → rIx K (.ref a) (.int 1) H Q' := fun {Q'} q => by
      rcases hS with h | h
      · exact .inl ⟨a, _, 1, _, rfl, rfl, h, rfl, q⟩
      · exact .inr (.inl ⟨a, _, 1, _, rfl, rfl, h, rfl, q⟩)
    refine ⟨_, rfl, a, _, rfl, hS, rfl, true, rfl, iteT ?_⟩
    refine ⟨_, rfl, i0 ⟨_, _, rfl, rfl, true, congrArg V.bl d1, iteT ⟨_, rfl, _, _, rfl, rfl, true, congrArg V.bl d3, iteT ?_⟩⟩⟩
    refine ⟨_, rfl, i1 ⟨_, _, rfl, rfl, true, congrArg V.bl d2, iteT ⟨_, rfl, _, _, rfl, rfl, ?_⟩⟩⟩
    dsimp only
    rw [d4]
    exact k
theorem scPairsOf : FnScope ["rooms", "arrows", "pairs", "at", "thing"] ["rooms", "arrows"] (defScope sPairsOf) := ⟨rfl, rfl, rfl, by decide +kernel, rfl, by decide +kernel, by decide +kernel⟩
theorem ok_pairs_of {f fI : Addr} {fd fdI : FuncData} {t4 : Tok} (F : Fun K "pairs_of" "pairs_of" sPairsOf f fd) (GI : FnOk P w K mg base CX0 1 fI fdI ["thing", "rooms"] (spIsPair K)) (bI : Binds K fdI ["thing", "rooms"] []) (mI : mg "is_pair" = some (.ref fI)) (kI : PySem.W.keepIn K (.ref fI) = true)
    (mEnum : mg "enumerate" = none) (mTuple : mg "tuple" = none) (m4 : mg "MOST_ARROWS" = some (.int 400 t4)) : FnOk P w K mg base CX0 2 f fd ["rooms", "arrows"] (spPairsOf K) := by
  refine F.ok scPairsOf (fun vs H Q E h => ?_) (fun cdv A outer s H vs Q E hr h => ?_)
  · obtain ⟨a, n, as, ps, rfl, _⟩ := h
    rfl
  · obtain ⟨a, n, as, ps, rfl, hS, hA, hb, hl, k⟩ := h
    have hlen : as.length = ps.length := Paired.length hA
    refine ⟨_, pss_cons (ps_set (i := 2) scPairsOf.nd rfl (Or.inl rfl) (pe_lst pa_nil))
      (pss_cons (ps_for PassesOwn.never rfl (pi_enum (by rfl) mEnum (pa_cons (pv 1) pa_nil)) (pg_tup rfl (pgs_cons (pg_name (i := 3) scPairsOf.nd rfl (Or.inl rfl)) (pgs_cons (pg_name (i := 4) scPairsOf.nd rfl (Or.inl rfl)) pgs_nil)))
        (pss_cons (ps_if (PW.pt (pw_or (pt_cmpR op_ge (pv 3) (pe_glob (v := .int 400) rfl m4 ⟨_, rfl⟩) (nomark _)) (pw_or1 (pt_not (pt_val (pe_call GI hr rfl mI kI bI .nil pass0 (pa_cons (pv 4) (pa_cons (pv 0) pa_nil)))))))) (pss_never) pss_nil)
          (pss_one (ps_expr (pe_bm PySem.F.plainAttrs_list PySem.F.slot_list_append PySem.F.type_list_append mt_append (pv 2) (pa_cons
            (pe_tup (pa_cons (pe_ix ix_seq (pv 4) pe_int (fun _ _ => rfl)) (pa_cons (pe_ix ix_seq (pv 4) pe_int (fun _ _ => rfl)) pa_nil))) pa_nil))))))
      (pss_one (ps_ret (pe_callTy call_tupleF (by rfl) mTuple (by decide +kernel) (pa_cons (pv 2) pa_nil))))), ?_⟩
    refine ⟨Nat.zero_le _, fun D hD => ?_⟩
    have S1 : Same H (upd H D (.lst [])) := same_new (Same.refl H) hD
    refine ⟨_, rfl, a, as, rfl, S1.seq hS, for_it (walk_enum (K := K) (a := a) (xs := as)) (fun i σ H' => ∃ (v1 v2 : Option V) (bs : List V), σ = [some (.int n), some (.ref a), some (.ref D), v1, v2] ∧ H' D = some (.lst bs) ∧ PairsIn H' bs (ps.take i) ∧ Same H H')
      ⟨none, none, [], rfl, upd_same, .nil, S1⟩ (fun i σ H' _ ⟨_, _, _, _, _, _, s'⟩ => s'.seq hS) ?_ ?_⟩
    · rintro i x σ H' H2 hi ⟨v1, v2, bs, rfl, hB, hP, s'⟩ ⟨T, x1, x2, rfl, hT, rfl, e1, e2⟩
      have e1 : V.int (i : Nat) = x1 := Option.some.inj e1
      subst e1
      obtain ⟨p, hp, ⟨c, rfl, hc⟩⟩ := paired_at hA e2
      have hpm : p ∈ ps := List.mem_of_getElem? hp
      have s2 : Same H (upd H' T (.tup [.int (i : Nat), .ref c])) := same_new s' hT
      have hc2 : SqL K (upd H' T (.tup [.int (i : Nat), .ref c])) c [.int p.1, .int p.2] ∨ SqT K (upd H' T (.tup [.int (i : Nat), .ref c])) c [.int p.1, .int p.2] := by
        obtain ⟨c', e, h⟩ := PairL.same s2 ⟨c, rfl, hc⟩
        cases e
        exact h
      have hB2 : upd H' T (.tup [.int (i : Nat), .ref c]) D = some (.lst bs) := by rw [upd_ne (ne_of_none hB hT)]; exact hB
      refine ⟨T, _, rfl, SqT.of upd_same, rfl, _, _, rfl, _, _, rfl, rfl, ?_⟩
      have d1 : decide ((400 : Int) ≤ ((i : Nat) : Int)) = false := decide_eq_false (by omega)
      refine ⟨_, rfl, _, _, rfl, rfl, false, congrArg V.bl d1, ?_⟩
      refine iteF ?_
      refine ⟨_, rfl, _, rfl, c, n, p.1, p.2, rfl, hc2, (hb p hpm).1, (hb p hpm).2, true, rfl, iteF ?_⟩
      generalize hH3 : upd H' T (.tup [.int (i : Nat), .ref c]) = H3 at s2 hc2 hB2
      have i0 : ∀ {Q' : VK}, Q' (.int (p.1 : Int)) H3 → rIx K (.ref c) (.int 0) H3 Q' := fun {Q'} q => by
        rcases hc2 with h | h
        · exact .inl ⟨c, _, 0, _, rfl, rfl, h, rfl, q⟩
        · exact .inr (.inl ⟨c, _, 0, _, rfl, rfl, h, rfl, q⟩)
      have i1 : ∀ {Q' : VK}, Q' (.int (p.2 : Int)) H3 → rIx K (.ref c) (.int 1) H3 Q' := fun {Q'} q => by
        rcases hc2 with h | h
        · exact .inl ⟨c, _, 1, _, rfl, rfl, h, rfl, q⟩
        · exact .inr (.inl ⟨c, _, 1, _, rfl, rfl, h, rfl, q⟩)
      have hP3 : PairsIn H3 bs (ps.take i) := by
        rw [← hH3]
        exact PairsIn.kp (Kp.new hT) hP
      refine ⟨_, rfl, .inl ⟨rfl, _, SqL.of hB2⟩, _, rfl, i0 ⟨_, rfl, i1 ⟨by show 2 ≤ sizeLine; decide, fun U hU => ?_⟩⟩⟩
      have nDU : D ≠ U := ne_of_none hB2 hU
      have hbl : bs.length ≤ 400 := by
        rw [Paired.length hP3]
        exact Nat.le_trans (List.length_take_le' _ _) hl
      refine ⟨D, bs, _, rfl, rfl, Eq.trans (upd_ne nDU) hB2, by rw [sizeLine_eq]; omega, ?_⟩
      refine ⟨_, _, bs ++ [.ref U], rfl, upd_same, ?_, same_put (same_new s2 hU) hD⟩
      have et : ps.take (i + 1) = ps.take i ++ [p] := by
        rw [List.take_succ, hp]
        rfl
      rw [et]
      refine paired_snoc (PairsIn.kp ((Kp.new hU).trans (Kp.put (Eq.trans (upd_ne nDU) hB2))) hP3) ⟨U, rfl, ?_⟩
      rw [upd_ne nDU.symm, upd_same]
    · rintro σ H' ⟨v1, v2, bs, rfl, hB, hP, s'⟩
      rw [hlen, List.take_length] at hP
      exact ⟨_, rfl, D, bs, rfl, SqL.of hB, fun q o hq hd => k _ q bs (same_new s' hq) ⟨o, upd_same, hd⟩ (PairsIn.kp (Kp.new hq) hP)⟩
end
end KW


set_option Elab.async false
set_option maxRecDepth 100000
/-! The program's webs: gathered. -/
namespace KW
open PySem PySem.Spec PyProof.Rows L2
theorem get_ref {fs : List Addr} {r : Nat} (h : r < fs.length) : (fs.map V.ref)[r]? = some (.ref fs[r]) := by
  rw [List.getElem?_map, List.getElem?_eq_getElem h]
  rfl
theorem nodup_snoc {α : Type} {l : List α} {a : α} (h : l.Nodup) (n : a ∉ l) : (l ++ [a]).Nodup := by
  rw [List.nodup_append]
  refine ⟨h, by simp, fun x hx y hy => ?_⟩
  have e : y = a := by simpa using hy
  subst e
  exact fun z => n (z ▸ hx)
section
variable {P : Program} {w : World} {K : PySem.W.Frag} {mg : Str → Option Value} {base : Heap}
abbrev nGathered : List Str := ["rooms", "places", "room", "found", "arrow", "arrows"]
theorem scGathered : FnScope nGathered ["rooms", "places"] (defScope sGathered) := ⟨rfl, rfl, rfl, by decide +kernel, rfl, by decide +kernel, by decide +kernel⟩
theorem ok_gathered {f : Addr} {fd : FuncData} (F : Fun K "gathered" "gathered" sGathered f fd) (mRange : mg "range" = none) (mEnum : mg "enumerate" = none) (mTuple : mg "tuple" = none) : FnOk P w K mg base CX0 1 f fd ["rooms", "places"] (spGathered K) := by
  refine F.ok scGathered (fun vs H Q E h => ?_) (fun cdv A outer s H vs Q E hr h => ?_)
  · obtain ⟨a, n, ps, rfl, _⟩ := h
    rfl
  · obtain ⟨a, n, ps, rfl, hS, hb, hn, hl, k⟩ := h
    refine ⟨_, pss_cons (ps_setLc (i := 3) (own := [("room", 2)]) (g := gName 2) (tt := tYes) rfl scGathered.nd rfl rfl (sw_true rfl rfl rfl (by decide +kernel)) (pi_range1 (by rfl) mRange (pa_cons (pv 0) pa_nil))
          (blkOk_by (own := [("room", 2)]) (N := nGathered) (sc := defScope sGathered) (by decide +kernel)) (fun _ _ _ _ _ => pg_name (i := 2) scGathered.nd rfl (Or.inl rfl)) (fun _ _ _ _ _ => pts_nil) (fun _ _ _ _ _ => pe_lst pa_nil))
      (pss_cons (ps_for PassesOwn.never rfl (pi_enum (by rfl) mEnum (pa_cons (pv 1) pa_nil)) (pg_tup rfl (pgs_cons (pg_name (i := 4) scGathered.nd rfl (Or.inl rfl)) (pgs_cons (pg_name (i := 2) scGathered.nd rfl (Or.inl rfl)) pgs_nil)))
        (pss_one (ps_expr (pe_bm PySem.F.plainAttrs_list PySem.F.slot_list_append PySem.F.type_list_append mt_append (pe_ix ix_list (pv 3) (pv 2) (fun _ _ => rfl)) (pa_cons (pv 4) pa_nil)))))
      (pss_one (ps_ret (pe_callTy call_tuple_of (by rfl) mTuple (by decide +kernel) (pa_cons (pe_lc (own := [("arrows", 5)]) (g := gName 5) (tt := tYes) rfl scGathered.nd (pi_list (pv 3))
          (blkOk_by (own := [("arrows", 5)]) (N := nGathered) (sc := defScope sGathered) (by decide +kernel)) (fun _ _ _ _ _ => pg_name (i := 5) scGathered.nd rfl (Or.inl rfl)) (fun _ _ _ _ _ => pts_nil)
          (fun _ _ _ _ _ => pe_callTy (call_tupleK (K := K) rfl) (by rfl) mTuple boot_tuple' (pa_cons (pv 5) pa_nil))) pa_nil))))), ?_⟩
    refine ⟨_, rfl, _, rfl, by omega, by omega, fun D hD => ?_⟩
    refine lc_range (lo := 0) (n := n) (fun i H' => ∃ fs : List Addr, H' D = some (.lst (fs.map V.ref)) ∧ fs.length = i ∧ fs.Nodup ∧ (∀ c ∈ fs, H c = none ∧ c ≠ D ∧ H' c = some (.lst [])) ∧ Same H H')
      ⟨[], upd_same, rfl, List.nodup_nil, fun c hc => absurd hc (by simp), same_new (Same.refl H) hD⟩ ?_ ?_
    · rintro i H' hi ⟨fs, hF, hfl, hnd, hf, s'⟩
      refine ⟨rfl, Nat.zero_le _, fun p hp => ?_⟩
      have nDp : D ≠ p := ne_of_none hF hp
      refine ⟨_, Eq.trans (upd_ne nDp) hF, by rw [sizeLine_eq, List.length_map]; omega, fs ++ [p], by rw [upd_same, List.map_append]; rfl, by rw [List.length_append, hfl]; rfl, ?_, ?_, same_put (same_new s' hp) hD⟩
      · refine nodup_snoc hnd fun z => ?_
        rw [(hf p z).2.2] at hp
        cases hp
      · intro c hc
        rcases List.mem_append.mp hc with q | q
        · obtain ⟨h1, h2, h3⟩ := hf c q
          exact ⟨h1, h2, by rw [upd_ne h2, upd_ne (ne_of_none h3 hp)]; exact h3⟩
        · have e : c = p := by simpa using q
          subst e
          exact ⟨s'.free hp, nDp.symm, by rw [upd_ne nDp.symm, upd_same]⟩
    · rintro H1 ⟨fs, hF, hfl, hnd, hf, s1⟩
      have fsN : ∀ r (h : r < fs.length), H fs[r] = none ∧ fs[r] ≠ D := fun r h => ⟨(hf _ (List.getElem_mem h)).1, (hf _ (List.getElem_mem h)).2.1⟩
      have pl : (nums ps).length = ps.length := by simp [nums]
      refine ⟨_, rfl, a, _, rfl, s1.seq hS, for_it (walk_enum (K := K) (a := a) (xs := nums ps)) (fun i σ H' => ∃ (v1 v2 : Option V), σ = [some (.int n), some (.ref a), v1, some (.ref D), v2, none] ∧ H' D = some (.lst (fs.map V.ref)) ∧ (∀ r (h : r < fs.length), H' fs[r] = some (.lst (nums (idxs (ps.take i) r 0)))) ∧ Same H H')
        ⟨none, none, rfl, hF, fun r h => (hf _ (List.getElem_mem h)).2.2, s1⟩ (fun i σ H' _ ⟨_, _, _, _, _, s'⟩ => s'.seq hS) ?_ ?_⟩
      · rintro i x σ H' H2 hi ⟨v1, v2, rfl, hF', hR, s'⟩ ⟨T, x1, x2, rfl, hT, rfl, e1, e2⟩
        have e1 : V.int (i : Nat) = x1 := Option.some.inj e1
        subst e1
        have hi' : i < ps.length := by omega
        have hp : ps[i]? = some ps[i] := List.getElem?_eq_getElem hi'
        have e2 : V.int (ps[i] : Nat) = x2 := by
          have q : (nums ps)[i]? = some x2 := e2
          unfold nums at q
          rw [List.getElem?_map, hp] at q
          exact Option.some.inj q
        subst e2
        generalize hr' : ps[i] = r at hp
        have hrn : r < fs.length := by
          rw [hfl, ← hr']
          exact hb _ (List.getElem_mem hi')
        have nT : ∀ {c : Addr} {o : HO}, H' c = some o → c ≠ T := fun h => ne_of_none h hT
        have hF2 : upd H' T (.tup [.int (i : Nat), .int (r : Nat)]) D = some (.lst (fs.map V.ref)) := by rw [upd_ne (nT hF')]; exact hF'
        have hR2 : ∀ q (h : q < fs.length), upd H' T (.tup [.int (i : Nat), .int (r : Nat)]) fs[q] = some (.lst (nums (idxs (ps.take i) q 0))) := fun q h => by rw [upd_ne (nT (hR q h))]; exact hR q h
        refine ⟨T, _, rfl, SqT.of upd_same, rfl, _, _, rfl, _, _, rfl, rfl, ?_⟩
        refine ⟨_, rfl, _, rfl, D, _, _, _, rfl, rfl, SqL.of hF2, atI_nat (get_ref hrn), .inl ⟨rfl, _, SqL.of (hR2 r hrn)⟩, _, rfl, fs[r], _, _, rfl, rfl, hR2 r hrn, ?_, ?_⟩
        · have := idxs_len r (ps.take i) 0
          have := List.length_take_le' i ps
          rw [sizeLine_eq]
          simp only [nums, List.length_map]
          omega
        · refine ⟨_, _, rfl, by rw [upd_ne (fsN r hrn).2.symm]; exact hF2, fun q h => ?_, same_put (same_new s' hT) (fsN r hrn).1⟩
          have et : ps.take (i + 1) = ps.take i ++ [r] := by
            rw [List.take_succ, hp]
            rfl
          have tl : (ps.take i).length = i := by rw [List.length_take]; omega
          rw [et, idxs_snoc, tl, Nat.zero_add]
          by_cases e : q = r
          · subst e
            rw [upd_same, if_pos rfl, nums_snoc]
          · have ne : fs[q] ≠ fs[r] := fun z => e ((List.getElem_inj hnd).mp z)
            rw [upd_ne ne, if_neg (fun z => e z.symm), List.append_nil]
            exact hR2 q h
      · rintro σ H' ⟨v1, v2, rfl, hF', hR, s'⟩
        rw [pl, List.take_length] at hR
        refine ⟨_, rfl, D, rfl, ⟨_, SqL.of hF'⟩, fun D2 hD2 => ?_⟩
        have nD2 : D ≠ D2 := ne_of_none hF' hD2
        refine lc_list (K := K) (a := D) (xs := fs.map V.ref) (fun i H2 => ∃ vs : List V, H2 D2 = some (.lst vs) ∧ RowsIn H2 vs ((gat n ps).take i) ∧ (∀ c o, H' c = some o → H2 c = some o))
          ⟨[], upd_same, .nil, fun c o h => by rw [upd_ne (ne_of_none h hD2)]; exact h⟩ (fun i H2 _ ⟨_, _, _, g⟩ => SqL.of (g D _ hF')) ?_ ?_
        · rintro i x H2 hx ⟨vs, hV, hRw, g⟩
          obtain ⟨hi, rfl⟩ : ∃ h : i < fs.length, x = .ref fs[i] := by
            have hlt := (List.getElem?_eq_some_iff.mp hx).1
            rw [List.length_map] at hlt
            rw [get_ref hlt] at hx
            exact ⟨hlt, (Option.some.inj hx).symm⟩
          refine ⟨rfl, _, rfl, fs[i], _, rfl, .inl ⟨SqL.of (g _ _ (hR i hi)), fun U hU => ?_⟩⟩
          have nU : D2 ≠ U := ne_of_none hV hU
          have vl : vs.length ≤ 1000 := by
            rw [Paired.length hRw]
            have := List.length_take_le' i (gat n ps)
            rw [gat_len] at this
            omega
          refine ⟨vs, Eq.trans (upd_ne nU) hV, by rw [sizeLine_eq]; omega, vs ++ [.ref U], upd_same, ?_, fun c o h => ?_⟩
          · have hgi : (gat n ps)[i]? = some (idxs ps i 0) := by
              unfold gat
              rw [List.getElem?_map, List.getElem?_range (by omega)]
              rfl
            have et : (gat n ps).take (i + 1) = (gat n ps).take i ++ [idxs ps i 0] := by
              rw [List.take_succ, hgi]
              rfl
            rw [et]
            refine paired_snoc (RowsIn.kp ((Kp.new hU).trans (Kp.put (Eq.trans (upd_ne nU) hV))) hRw) ⟨U, rfl, ?_⟩
            rw [upd_ne nU.symm, upd_same]
          · have h2 := g c o h
            rw [upd_ne (ne_of_none h hD2), upd_ne (ne_of_none h2 hU)]
            exact h2
        · rintro H2 ⟨vs, hV, hRw, g⟩
          rw [List.length_map, hfl] at hRw
          have et : (gat n ps).take n = gat n ps := List.take_of_length_le (by rw [gat_len]; exact Nat.le_refl _)
          rw [et] at hRw
          exact ⟨D2, vs, rfl, .inl ⟨SqL.of hV, fun q hq => k _ q vs (same_new (fun c o h => g c o (s' c o h)) hq) upd_same (RowsIn.kp (Kp.new hq) hRw)⟩⟩
end
end KW


set_option Elab.async false
set_option maxRecDepth 100000
/-! The program's webs: a Web is made. -/
namespace KW
open PySem PySem.Spec PyProof.Rows L2
abbrev sWebClass : Stmt := topS 27
abbrev sInit : Stmt := inClass sWebClass 0
abbrev sMade : Stmt := topS 34
structure WebC (K : PySem.W.Frag) (C : Addr) : Prop where
  cl : Cls K C
  nT : NoAttr K C "room_total"
  nP : NoAttr K C "pairs"
  nL : NoAttr K C "leaving"
  nE : NoAttr K C "entering"
def wf (n : Nat) (q lv en : Addr) : List (Str × V) := putF "entering" (.ref en) (putF "leaving" (.ref lv) (putF "pairs" (.ref q) (putF "room_total" (.int n) [])))
theorem wf_entering (n : Nat) (q lv en : Addr) : (wf n q lv en).lookup ("entering" : Str) = some (.ref en) := by
  unfold wf
  rw [lookup_putF, if_pos rfl]
theorem wf_leaving (n : Nat) (q lv en : Addr) : (wf n q lv en).lookup ("leaving" : Str) = some (.ref lv) := by
  unfold wf
  rw [lookup_putF, if_neg (by decide +kernel), lookup_putF, if_pos rfl]
theorem wf_pairs (n : Nat) (q lv en : Addr) : (wf n q lv en).lookup ("pairs" : Str) = some (.ref q) := by
  unfold wf
  rw [lookup_putF, if_neg (by decide +kernel), lookup_putF, if_neg (by decide +kernel), lookup_putF, if_pos rfl]
theorem wf_total (n : Nat) (q lv en : Addr) : (wf n q lv en).lookup ("room_total" : Str) = some (.int n) := by
  unfold wf
  rw [lookup_putF, if_neg (by decide +kernel), lookup_putF, if_neg (by decide +kernel), lookup_putF, if_neg (by decide +kernel), lookup_putF, if_pos rfl]
theorem wf_no (n : Nat) (q lv en : Addr) {m : Str} (h1 : ¬ m = "entering") (h2 : ¬ m = "leaving") (h3 : ¬ m = "pairs") (h4 : ¬ m = "room_total") : (wf n q lv en).lookup m = none := by
  unfold wf
  rw [lookup_putF, if_neg h1, lookup_putF, if_neg h2, lookup_putF, if_neg h3, lookup_putF, if_neg h4]
  rfl
/-- a web at x: n rooms, arrows ps -/
def WebAt (C : Addr) (H : Hp) (x : Addr) (n : Nat) (ps : List (Nat × Nat)) : Prop := ∃ (dx q lv en : Addr) (as ls es : List V), H x = some (.ins C dx (wf n q lv en)) ∧ FzT H q as ∧ PairsIn H as ps ∧
  H lv = some (.tup ls) ∧ RowsIn H ls (gat n (ps.map (·.1))) ∧ H en = some (.tup es) ∧ RowsIn H es (gat n (ps.map (·.2)))
theorem WebAt.to {C : Addr} {H H' : Hp} {x : Addr} {n : Nat} {ps : List (Nat × Nat)} (k : Kp H H') (hx : H' x = H x) (h : WebAt C H x n ps) : WebAt C H' x n ps := by
  obtain ⟨dx, q, lv, en, as, ls, es, h1, h2, h3, h4, h5, h6, h7⟩ := h
  exact ⟨dx, q, lv, en, as, ls, es, hx.trans h1, k.f h2, PairsIn.kp k h3, k.t h4, RowsIn.kp k h5, k.t h6, RowsIn.kp k h7⟩
theorem putF_lt {f : Str} {v : V} {fs : List (Str × V)} {k : Nat} (h : fs.length < k) : (putF f v fs).length < k + 1 := Nat.lt_of_le_of_lt (length_putF f v fs) (by omega)
def spInit (K : PySem.W.Frag) (C : Addr) : Sp := fun vs H Q _ => ∃ (x dx a : Addr) (n : Nat) (as : List V) (ps : List (Nat × Nat)), vs = [.ref x, .int n, .ref a] ∧ H x = some (.ins C dx []) ∧ SqL K H a as ∧ Paired (PairL K H) as ps ∧ Good n ps ∧ n ≤ 100 ∧ ps.length ≤ 400 ∧
  ∀ H' : Hp, WebAt C H' x n ps → (∀ b o, b ≠ x → H b = some o → H' b = some o) → Q .non H'
def spMade (C : Addr) : Sp := fun vs H Q _ => ∃ (t : Addr) (n : Nat) (ps : List (Nat × Nat)), vs = [.ref t] ∧ WebT H t n ps ∧ n ≤ 100 ∧ ps.length ≤ 400 ∧
  ∀ (H' : Hp) (x : Addr), WebAt C H' x n ps → Same H H' → H x = none → Q (.ref x) H'
theorem PairsIn.loose {K : PySem.W.Frag} {H : Hp} : ∀ {as : List V} {ps : List (Nat × Nat)}, PairsIn H as ps → Paired (PairL K H) as ps
  | _, _, .nil => .nil
  | _, _, .cons ⟨a, e, h⟩ r => .cons ⟨a, e, .inr (SqT.of h)⟩ (PairsIn.loose r)
theorem pairs_get {H : Hp} {as : List V} {ps : List (Nat × Nat)} {i : Nat} {x : V} (h : PairsIn H as ps) (e : as[i]? = some x) : ∃ (p : Nat × Nat) (a : Addr), ps[i]? = some p ∧ x = .ref a ∧ H a = some (.tup [.int p.1, .int p.2]) := by
  obtain ⟨p, h1, a, h2, h3⟩ := paired_at h e
  exact ⟨p, a, h1, h2, h3⟩
theorem take_snoc {α : Type} {l : List α} {i : Nat} {a : α} (h : l[i]? = some a) : l.take (i + 1) = l.take i ++ [a] := by
  rw [List.take_succ, h]
  rfl
section
variable {P : Program} {w : World} {K : PySem.W.Frag} {mg : Str → Option Value} {base : Heap}
abbrev nInit : List Str := ["self", "rooms", "arrows", "pairs", "leaving", "pair"]
theorem scInit : FnScope nInit ["self", "rooms", "arrows"] (defScope sInit) := ⟨rfl, rfl, rfl, by decide +kernel, rfl, by decide +kernel, by decide +kernel⟩
theorem ok_init {f fP fG C : Addr} {fd fdP fdG : FuncData} {t1 : Tok} (F : Fun K "__init__" "Web.__init__" sInit f fd) (T : WebC K C)
    (GP : FnOk P w K mg base CX0 2 fP fdP ["rooms", "arrows"] (spPairsOf K)) (bP : Binds K fdP ["rooms", "arrows"] []) (mP : mg "pairs_of" = some (.ref fP)) (kP : PySem.W.keepIn K (.ref fP) = true)
    (GG : FnOk P w K mg base CX0 1 fG fdG ["rooms", "places"] (spGathered K)) (bG : Binds K fdG ["rooms", "places"] []) (mG : mg "gathered" = some (.ref fG)) (kG : PySem.W.keepIn K (.ref fG) = true)
    (m1 : mg "MOST_ROOMS" = some (.int 100 t1)) : FnOk P w K mg base CX0 3 f fd ["self", "rooms", "arrows"] (spInit K C) := by
  refine F.ok scInit (fun vs H Q E h => ?_) (fun cdv A outer s H vs Q E hr h => ?_)
  · obtain ⟨x, dx, a, n, as, ps, rfl, _⟩ := h
    rfl
  · obtain ⟨x, dx, a, n, as, ps, rfl, hx, hS, hA, hG, hn, hl, k⟩ := h
    have hr1 : Room 1 _ := hr.mono (by decide)
    have hlen : as.length = ps.length := Paired.length hA
    refine ⟨_, pss_cons (ps_if (pt_not (pt_chain op_le op_le pe_int (pv 1) (pe_glob (v := .int 100) rfl m1 ⟨_, rfl⟩))) pss_never pss_nil)
      (pss_cons (ps_set (i := 3) scInit.nd rfl (Or.inl rfl) (pe_call GP hr rfl mP kP bP .nil pass0 (pa_cons (pv 1) (pa_cons (pv 2) pa_nil))))
      (pss_cons (ps_set (i := 4) scInit.nd rfl (Or.inl rfl) (pe_call GG hr1 rfl mG kG bG .nil pass0 (pa_cons (pv 1) (pa_cons
          (pe_lc (own := [("pair", 5)]) (g := gName 5) (tt := tYes) rfl scInit.nd (pi_tup (pv 3)) (blkOk_by (own := [("pair", 5)]) (N := nInit) (sc := defScope sInit) (by decide +kernel)) (fun _ _ _ _ _ => pg_name (i := 5) scInit.nd rfl (Or.inl rfl)) (fun _ _ _ _ _ => pts_nil)
            (fun _ _ _ _ _ => pe_ix (ix_tupK (K := K) rfl) (pv 5) pe_int (fun _ _ => rfl))) pa_nil))))
      (pss_cons (ps_if (pt_cmpR (op_inTD (hu65 hr)) (pe_tup pa_nil) (pv 4) (by rfl)) pss_never pss_nil)
      (pss_cons (ps_fld (pv 0) (pv 1) rfl) (pss_cons (ps_fld (pv 0) (pv 3) rfl) (pss_cons (ps_fld (pv 0) (pv 4) rfl)
      (pss_one (ps_fld (pv 0) (pe_call GG hr1 rfl mG kG bG .nil pass0 (pa_cons (pv 1) (pa_cons
          (pe_lc (own := [("pair", 5)]) (g := gName 5) (tt := tYes) rfl scInit.nd (pi_tup (pv 3)) (blkOk_by (own := [("pair", 5)]) (N := nInit) (sc := defScope sInit) (by decide +kernel)) (fun _ _ _ _ _ => pg_name (i := 5) scInit.nd rfl (Or.inl rfl)) (fun _ _ _ _ _ => pts_nil)
            (fun _ _ _ _ _ => pe_ix (ix_tupK (K := K) rfl) (pv 5) pe_int (fun _ _ => rfl))) pa_nil))) rfl)))))))), ?_⟩
    have d1 : decide ((1 : Int) ≤ (n : Int)) = true := decide_eq_true (by have := hG.1; omega)
    have d2 : decide ((n : Int) ≤ (100 : Int)) = true := decide_eq_true (by omega)
    refine ⟨_, rfl, _, _, rfl, rfl, true, congrArg V.bl d1, iteT ⟨_, _, rfl, rfl, true, congrArg V.bl d2, iteF ?_⟩⟩
    -- pairs
    refine ⟨_, rfl, _, rfl, a, n, as, ps, rfl, hS, hA, hG.2.1, hl, fun H1 q bs s1 hq hP1 => ?_⟩
    have hx1 : H1 x = some (.ins C dx []) := s1 _ _ hx
    have hbl : bs.length = ps.length := Paired.length hP1
    -- leaving
    refine ⟨_, rfl, _, rfl, q, rfl, ⟨_, hq.sq⟩, fun D hD => ?_⟩
    refine lc_tup (K := K) (a := q) (xs := bs) (fun i H' => H' D = some (.lst (nums ((ps.take i).map (·.1)))) ∧ Same H1 H')
      ⟨upd_same, same_new (Same.refl H1) hD⟩ (fun i H' _ ⟨_, s'⟩ => ((Same.kp s').f hq).sq) ?_ ?_
    · rintro i y H' hy ⟨hD', s'⟩
      obtain ⟨p, c, hp, rfl, hc⟩ := pairs_get hP1 hy
      refine ⟨rfl, _, rfl, c, _, _, _, rfl, rfl, SqT.of (s' _ _ hc), rfl, _, hD', ?_, ?_, same_put s' hD⟩
      · rw [sizeLine_eq]
        simp only [nums, List.length_map]
        have := List.length_take_le' i ps
        omega
      · rw [upd_same, take_snoc hp, List.map_append]
        exact congrArg (fun l => some (HO.lst l)) (nums_snoc _ _).symm
    · rintro H2 ⟨hD2, s2⟩
      rw [hbl, List.take_length] at hD2
      have hx2 : H2 x = some (.ins C dx []) := s2 _ _ hx1
      refine ⟨D, n, ps.map (·.1), rfl, SqL.of hD2, fun r hr' => ?_, by omega, by rw [List.length_map]; omega, fun H3 lv ls s3 hlv hR3 => ?_⟩
      · obtain ⟨p, hp, e⟩ := List.mem_map.mp hr'
        rw [← e]
        exact (hG.2.1 p hp).1
      -- () in leaving
      refine ⟨Nat.zero_le _, fun U hU => ?_⟩
      have s4 : Same H3 (upd H3 U (.tup [])) := same_new (Same.refl H3) hU
      have full : (gat n (ps.map (·.1))).any (·.isEmpty) = false := gat_full fun r hr' => by
        obtain ⟨p, hp, e⟩ := hG.2.2 r hr'
        exact List.mem_map.mpr ⟨p, hp, e⟩
      refine ⟨_, rfl, .tuple [], (gat n (ps.map (·.1))).map rowD, .tup (SqT.of upd_same) .nil, .tup (SqT.of (s4 _ _ hlv)) (dp_rows (RowsIn.kp (Same.kp s4) hR3)), nil_shaped, rows_shaped _, false, ?_, iteF ?_⟩
      · rw [nil_in, full]
      have t4 : Kp H1 (upd H3 U (.tup [])) := (Same.kp s2).trans ((Same.kp s3).trans (Same.kp s4))
      have hx4 : upd H3 U (.tup []) x = some (.ins C dx []) := s4 _ _ (s3 _ _ hx2)
      have hq4 : FzT (upd H3 U (.tup [])) q bs := t4.f hq
      have hP4 : PairsIn (upd H3 U (.tup [])) bs ps := PairsIn.kp t4 hP1
      have hlv4 : upd H3 U (.tup []) lv = some (.tup ls) := s4 _ _ hlv
      have hR4 : RowsIn (upd H3 U (.tup [])) ls (gat n (ps.map (·.1))) := RowsIn.kp (Same.kp s4) hR3
      have g4 : Same H (upd H3 U (.tup [])) := s1.trans (s2.trans (s3.trans s4))
      generalize upd H3 U (.tup []) = H4 at s4 t4 hx4 hq4 hP4 hlv4 hR4 g4
      -- the three fields
      have kx : ∀ {fs fs' : List (Str × V)} {Hh : Hp}, Hh x = some (.ins C dx fs) → Kp Hh (upd Hh x (.ins C dx fs')) := fun {fs fs' Hh} h c o f e => by
        rw [upd_ne (ne_of e h (by intro z; subst z; exact f))]
        exact e
      refine ⟨_, rfl, _, rfl, x, C, dx, [], rfl, hx4, T.cl, T.nT, (by show 0 < 1000; decide), ?_⟩
      refine ⟨_, rfl, _, rfl, x, C, dx, _, rfl, upd_same, T.cl, T.nP, Nat.lt_of_lt_of_le (putF_lt (k := 1) (by simp)) (by decide), ?_⟩
      refine ⟨_, rfl, _, rfl, x, C, dx, _, rfl, upd_same, T.cl, T.nL, Nat.lt_of_lt_of_le (putF_lt (putF_lt (k := 1) (by simp))) (by decide), ?_⟩
      rw [upd_upd, upd_upd]
      have k5 := kx (fs' := putF "leaving" (.ref lv) (putF "pairs" (.ref q) (putF "room_total" (.int n) []))) hx4
      have hx5 : upd H4 x (.ins C dx (putF "leaving" (.ref lv) (putF "pairs" (.ref q) (putF "room_total" (.int n) [])))) x = some (.ins C dx (putF "leaving" (.ref lv) (putF "pairs" (.ref q) (putF "room_total" (.int n) [])))) := upd_same
      have g5 : ∀ b o, b ≠ x → H b = some o → upd H4 x (.ins C dx (putF "leaving" (.ref lv) (putF "pairs" (.ref q) (putF "room_total" (.int n) [])))) b = some o := fun b o nb h => by
        rw [upd_ne nb]
        exact g4 b o h
      have hq5 := k5.f hq4
      have hP5 := PairsIn.kp k5 hP4
      have hlv5 := k5.t hlv4
      have hR5 := RowsIn.kp k5 hR4
      generalize upd H4 x (.ins C dx (putF "leaving" (.ref lv) (putF "pairs" (.ref q) (putF "room_total" (.int n) [])))) = H5 at k5 hx5 g5 hq5 hP5 hlv5 hR5
      -- entering
      refine ⟨_, rfl, _, rfl, q, rfl, ⟨_, hq5.sq⟩, fun D2 hD2' => ?_⟩
      refine lc_tup (K := K) (a := q) (xs := bs) (fun i H' => H' D2 = some (.lst (nums ((ps.take i).map (·.2)))) ∧ Same H5 H')
        ⟨upd_same, same_new (Same.refl H5) hD2'⟩ (fun i H' _ ⟨_, s'⟩ => ((Same.kp s').f hq5).sq) ?_ ?_
      · rintro i y H' hy ⟨hD', s'⟩
        obtain ⟨p, c, hp, rfl, hc⟩ := pairs_get hP5 hy
        refine ⟨rfl, _, rfl, c, _, _, _, rfl, rfl, SqT.of (s' _ _ hc), rfl, _, hD', ?_, ?_, same_put s' hD2'⟩
        · rw [sizeLine_eq]
          simp only [nums, List.length_map]
          have := List.length_take_le' i ps
          omega
        · rw [upd_same, take_snoc hp, List.map_append]
          exact congrArg (fun l => some (HO.lst l)) (nums_snoc _ _).symm
      · rintro H6 ⟨hD6, s6⟩
        rw [hbl, List.take_length] at hD6
        refine ⟨D2, n, ps.map (·.2), rfl, SqL.of hD6, fun r hr' => ?_, by omega, by rw [List.length_map]; omega, fun H7 en es s7 hen hR7 => ?_⟩
        · obtain ⟨p, hp, e⟩ := List.mem_map.mp hr'
          rw [← e]
          exact (hG.2.1 p hp).2
        have s57 : Same H5 H7 := s6.trans s7
        have hx7 := s57 _ _ hx5
        have kk := (Same.kp s57).trans (kx (fs' := wf n q lv en) hx7)
        refine ⟨_, rfl, x, C, dx, _, rfl, hx7, T.cl, T.nE, Nat.lt_of_lt_of_le (putF_lt (putF_lt (putF_lt (k := 1) (by simp)))) (by decide), ?_⟩
        refine k _ ⟨dx, q, lv, en, bs, ls, es, upd_same, kk.f hq5, PairsIn.kp kk hP5, kk.t hlv5, RowsIn.kp kk hR5, (kx hx7).t hen, RowsIn.kp (kx hx7) hR7⟩ fun b o nb h => ?_
        rw [upd_ne nb]
        exact s57 _ _ (g5 b o nb h)
theorem scMade : FnScope ["_law_w"] ["_law_w"] (defScope sMade) := ⟨rfl, rfl, rfl, by decide +kernel, rfl, by decide +kernel, by decide +kernel⟩
theorem ok_made {f fI C : Addr} {fd fdI : FuncData} (F : Fun K "_law_made" "_law_made" sMade f fd) (M : Mk K C fI) (GI : FnOk P w K mg base CX0 3 fI fdI ["self", "rooms", "arrows"] (spInit K C)) (bI : Binds K fdI ["self", "rooms", "arrows"] []) (mC : mg "Web" = some (.ref C))
    (mList : mg "list" = none) : FnOk P w K mg base CX0 5 f fd ["_law_w"] (spMade C) := by
  refine F.ok scMade (fun vs H Q E h => ?_) (fun cdv A outer s H vs Q E hr h => ?_)
  · obtain ⟨t, n, ps, rfl, _⟩ := h
    rfl
  · obtain ⟨t, n, ps, rfl, ⟨q, as, h1, h2, h3, h4⟩, hn, hl, k⟩ := h
    refine ⟨_, pss_one (ps_ret (pe_make M GI hr rfl mC bI .nil pass0 (pa_cons (pe_ix ix_tup (pv 0) pe_int (fun _ _ => rfl)) (pa_cons (pe_callTy call_list_of (by rfl) mList (by decide +kernel) (pa_cons (pe_ix ix_tup (pv 0) pe_int (fun _ _ => rfl)) pa_nil)) pa_nil)))), ?_⟩
    refine ⟨_, rfl, t, _, _, _, rfl, rfl, SqT.of h1, rfl, _, rfl, t, _, _, _, rfl, rfl, SqT.of h1, rfl, q, _, rfl, .inr h2.sq, fun l hl' => ?_⟩
    intro x dx nx ndx nex
    have s1 : Same H (upd H l (.lst as)) := same_new (Same.refl H) hl'
    have s2 : Same (upd H l (.lst as)) (upd (upd (upd H l (.lst as)) dx (.own x)) x (.ins C dx [])) := fun b o e => by
      rw [upd_ne (ne_of_none e nx), upd_ne (ne_of_none e ndx)]
      exact e
    have s3 := s1.trans s2
    refine ⟨x, dx, l, n, as, ps, rfl, upd_same, SqL.of (s2 _ _ upd_same), PairsIn.loose (PairsIn.kp (Same.kp s3) h3), h4, hn, hl, fun H' hW g => ⟨rfl, k H' x hW (fun b o e => ?_) (s1.free nx)⟩⟩
    have nbx : b ≠ x := ne_of_none (s1 _ _ e) nx
    exact g b o nbx (s3 _ _ e)
end
end KW


set_option Elab.async false
set_option maxRecDepth 100000
/-! The program's webs: what is asked of one. -/
namespace KW
open PySem PySem.Spec PyProof.Rows L2
abbrev sEq : Stmt := inClass sWebClass 1
abbrev sLen : Stmt := inClass sWebClass 2
abbrev sRepr : Stmt := inClass sWebClass 3
abbrev sRooms : Stmt := inClass sWebClass 4
abbrev sArrows : Stmt := inClass sWebClass 5
abbrev sBegin : Stmt := inClass sWebClass 6
abbrev sEnd : Stmt := inClass sWebClass 7
abbrev sOuts : Stmt := inClass sWebClass 8
abbrev sIns : Stmt := inClass sWebClass 9
abbrev sLeading : Stmt := inClass sWebClass 10
abbrev sHas : Stmt := inClass sWebClass 15
abbrev sNeedA : Stmt := inClass sWebClass 19
abbrev sNeedR : Stmt := inClass sWebClass 20
/-! ### data -/
def pD (p : Nat × Nat) : PyData := .tuple [.int p.1, .int p.2]
theorem pD_lay : ∀ ps : List (Nat × Nat), PyData.canLayAll0 (ps.map pD) = true
  | [] => by simp [PyData.canLayAll0]
  | p :: ps => by simp [PyData.canLayAll0, pD, PyData.canLay0, pD_lay ps]
theorem pD_plain : ∀ ps : List (Nat × Nat), PyData.plainAll (ps.map pD) = true
  | [] => by simp [PyData.plainAll]
  | p :: ps => by simp [PyData.plainAll, pD, PyData.plain, pD_plain ps]
theorem pD_depth : ∀ ps : List (Nat × Nat), PyData.depthAll (ps.map pD) ≤ 1
  | [] => by simp [PyData.depthAll]
  | p :: ps => by
    have h := pD_depth ps
    simp only [List.map_cons, PyData.depthAll, pD, PyData.depth]
    omega
theorem pDs_shaped (ps : List (Nat × Nat)) : SeqAt.shaped (.tuple (ps.map pD)) = true := by
  have h := pD_depth ps
  exact shaped_of (by simp only [PyData.canLay0]; exact pD_lay ps) (by simp only [PyData.depth]; omega)
theorem pD_eqv (p : Nat × Nat) (a b : Int) : PyData.eqv (pD p) (.tuple [.int a, .int b]) = (decide ((p.1 : Int) = a) && decide ((p.2 : Int) = b)) := by
  simp only [pD, PyData.eqv, PyData.eqvAll, Bool.and_true]
  rfl
theorem pDs_eqv : ∀ ps qs : List (Nat × Nat), PyData.eqvAll (ps.map pD) (qs.map pD) = decide (ps = qs)
  | [], [] => by simp [PyData.eqvAll]
  | [], q :: qs => by simp [PyData.eqvAll]
  | p :: ps, [] => by simp [PyData.eqvAll]
  | p :: ps, q :: qs => by
    have ih := pDs_eqv ps qs
    obtain ⟨a, b⟩ := p
    obtain ⟨c, d⟩ := q
    simp only [List.map_cons, PyData.eqvAll, ih]
    have e : PyData.eqv (pD (a, b)) (pD (c, d)) = (decide ((a : Int) = (c : Int)) && decide ((b : Int) = (d : Int))) := pD_eqv (a, b) c d
    rw [e]
    by_cases h1 : a = c
    · by_cases h2 : b = d
      · subst h1 h2
        simp
      · have h2' : ¬ ((b : Int) = (d : Int)) := by omega
        simp [h1, h2, h2']
    · have h1' : ¬ ((a : Int) = (c : Int)) := by omega
      simp [h1, h1']
theorem dp_pairs {K : PySem.W.Frag} {H : Hp} : ∀ {as : List V} {ps : List (Nat × Nat)}, PairsIn H as ps → DpAll K H as (ps.map pD)
  | _, _, .nil => .nil
  | _, _, .cons ⟨a, e, h⟩ r => by
    rw [e]
    exact .cons (.tup (SqT.of h) (.cons (.int _) (.cons (.int _) .nil))) (dp_pairs r)
def cnt (ps : List (Nat × Nat)) (a b : Nat) : Nat := (ps.map pD).countP fun z => PyData.eqv z (.tuple [.int a, .int b])
def numT (i : Nat) : Str := toString (i : Int)
theorem numT_len (i : Nat) (h : i ≤ 500) : (numT i).length ≤ 5 := by
  have all : ∀ j : Fin 501, (numT j.1).length ≤ 5 := by decide +kernel
  exact all ⟨i, by omega⟩
theorem small_log (i : Nat) (h : i ≤ 500) : ((i : Nat) : Int).natAbs.log2 < 1920 := by
  have e : ((i : Nat) : Int).natAbs = i := by omega
  rw [e]
  exact Nat.lt_of_le_of_lt (Nat.log2_le_self i) (by omega)
theorem str_len_append (a b : Str) : (a ++ b).length = a.length + b.length := by
  show (a.cps ++ b.cps).size = a.cps.size + b.cps.size
  rw [Array.size_append]
def webTxt (n m : Nat) : Str := Str.empty ++ "Web(" ++ numT n ++ " rooms, " ++ numT m ++ " arrows)"
/-! ### promises -/
structure WebQ (K : PySem.W.Frag) (C : Addr) : Prop where
  ha : PySem.W.findIn K (.ref C) "__class__" = some (some (.builtin "object.__class__"))
  hn : PySem.W.specialIn K (.builtin "object.__class__") "__get__" = some (some (.builtin "getset_descriptor.__get__"))
  ht : PySem.W.takesIn K (.builtin "object.__class__") = some true
  hm : PySem.W.mroIn K C (.type "object") = some true
  kO : PySem.W.kitOne K (.ref C) (.ref C) = some true
  kT : PySem.W.kitOne K (.type "tuple") (.ref C) = some false
def spHas (C : Addr) : Sp := fun vs H Q _ => ∃ (x : Addr) (n : Nat) (ps : List (Nat × Nat)) (i : Int), vs = [.ref x, .int i] ∧ WebAt C H x n ps ∧ Q (.bl (decide (0 ≤ i ∧ i < ps.length))) H
def spNeedA (C : Addr) : Sp := fun vs H Q _ => ∃ (x : Addr) (n : Nat) (ps : List (Nat × Nat)) (i : Nat), vs = [.ref x, .int i] ∧ WebAt C H x n ps ∧ i < ps.length ∧ Q .non H
def spNeedR (C : Addr) : Sp := fun vs H Q _ => ∃ (x : Addr) (n : Nat) (ps : List (Nat × Nat)) (i : Nat), vs = [.ref x, .int i] ∧ WebAt C H x n ps ∧ i < n ∧ Q .non H
def spRooms (C : Addr) : Sp := fun vs H Q _ => ∃ (x : Addr) (n : Nat) (ps : List (Nat × Nat)), vs = [.ref x] ∧ WebAt C H x n ps ∧ Q (.int n) H
def spLen (C : Addr) : Sp := fun vs H Q _ => ∃ (x : Addr) (n : Nat) (ps : List (Nat × Nat)), vs = [.ref x] ∧ WebAt C H x n ps ∧ Q (.int ps.length) H
def spArrows (C : Addr) : Sp := fun vs H Q _ => ∃ (x : Addr) (n : Nat) (ps : List (Nat × Nat)), vs = [.ref x] ∧ WebAt C H x n ps ∧ ∀ (H' : Hp) (l : Addr) (as : List V), Same H H' → H l = none → H' l = some (.lst as) → PairsIn H' as ps → Q (.ref l) H'
def spBegin (C : Addr) : Sp := fun vs H Q _ => ∃ (x : Addr) (n : Nat) (ps : List (Nat × Nat)) (i : Nat) (p : Nat × Nat), vs = [.ref x, .int i] ∧ WebAt C H x n ps ∧ ps[i]? = some p ∧ Q (.int p.1) H
def spEnd (C : Addr) : Sp := fun vs H Q _ => ∃ (x : Addr) (n : Nat) (ps : List (Nat × Nat)) (i : Nat) (p : Nat × Nat), vs = [.ref x, .int i] ∧ WebAt C H x n ps ∧ ps[i]? = some p ∧ Q (.int p.2) H
def spOuts (C : Addr) : Sp := fun vs H Q _ => ∃ (x : Addr) (n : Nat) (ps : List (Nat × Nat)) (r : Nat), vs = [.ref x, .int r] ∧ WebAt C H x n ps ∧ r < n ∧ ∀ (H' : Hp) (l : Addr), Same H H' → H l = none → H' l = some (.lst (nums (idxs (ps.map (·.1)) r 0))) → Q (.ref l) H'
def spIns (C : Addr) : Sp := fun vs H Q _ => ∃ (x : Addr) (n : Nat) (ps : List (Nat × Nat)) (r : Nat), vs = [.ref x, .int r] ∧ WebAt C H x n ps ∧ r < n ∧ ∀ (H' : Hp) (l : Addr), Same H H' → H l = none → H' l = some (.lst (nums (idxs (ps.map (·.2)) r 0))) → Q (.ref l) H'
def spLeading (C : Addr) : Sp := fun vs H Q _ => ∃ (x : Addr) (n : Nat) (ps : List (Nat × Nat)) (r s : Nat), vs = [.ref x, .int r, .int s] ∧ WebAt C H x n ps ∧ r < n ∧ s < n ∧ ∀ H' : Hp, Same H H' → Q (.int (cnt ps r s)) H'
def spRepr (C : Addr) : Sp := fun vs H Q _ => ∃ (x : Addr) (n : Nat) (ps : List (Nat × Nat)), vs = [.ref x] ∧ WebAt C H x n ps ∧ n ≤ 500 ∧ ps.length ≤ 500 ∧ Q (.str (webTxt n ps.length)) H
def spEq (C : Addr) : Sp := fun vs H Q _ => ∃ (x y : Addr) (n : Nat) (ps : List (Nat × Nat)), vs = [.ref x, .ref y] ∧ WebAt C H x n ps ∧ ((∃ (m : Nat) (qs : List (Nat × Nat)), WebAt C H y m qs ∧ Q (.bl (decide (n = m ∧ ps = qs))) H) ∨ (∃ ys, FzT H y ys ∧ Q (.bl false) H))
theorem row_at {H : Hp} {vs : List V} {ls : List (List Nat)} {i : Nat} {l : List Nat} (h : RowsIn H vs ls) (e : ls[i]? = some l) : ∃ a, vs[i]? = some (.ref a) ∧ H a = some (.tup (nums l)) := by
  induction h generalizing i with
  | nil => simp at e
  | cons x r ih =>
    cases i with
    | zero =>
      obtain ⟨a, e1, h1⟩ := x
      simp at e
      subst e
      exact ⟨a, by rw [e1]; rfl, h1⟩
    | succ i =>
      obtain ⟨a, h1, h2⟩ := ih (i := i) (by simpa using e)
      exact ⟨a, by simpa using h1, h2⟩
theorem pair_at {H : Hp} {as : List V} {ps : List (Nat × Nat)} {i : Nat} {p : Nat × Nat} (h : PairsIn H as ps) (e : ps[i]? = some p) : ∃ a, as[i]? = some (.ref a) ∧ H a = some (.tup [.int p.1, .int p.2]) := by
  induction h generalizing i with
  | nil => simp at e
  | cons x r ih =>
    cases i with
    | zero =>
      obtain ⟨a, e1, h1⟩ := x
      simp at e
      subst e
      exact ⟨a, by rw [e1]; rfl, h1⟩
    | succ i =>
      obtain ⟨a, h1, h2⟩ := ih (i := i) (by simpa using e)
      exact ⟨a, by simpa using h1, h2⟩
theorem gat_at {n r : Nat} (ps : List Nat) (h : r < n) : (gat n ps)[r]? = some (idxs ps r 0) := by
  unfold gat
  rw [List.getElem?_map, List.getElem?_range h]
  rfl
section
variable {P : Program} {w : World} {K : PySem.W.Frag} {mg : Str → Option Value} {base : Heap}
theorem scHas : FnScope ["self", "arrow"] ["self", "arrow"] (defScope sHas) := ⟨rfl, rfl, rfl, by decide +kernel, rfl, by decide +kernel, by decide +kernel⟩
theorem ok_has {f C : Addr} {fd : FuncData} (F : Fun K "has_arrow" "Web.has_arrow" sHas f fd) (T : WebC K C) (mLen : mg "len" = none) : FnOk P w K mg base CX0 1 f fd ["self", "arrow"] (spHas C) := by
  refine F.ok scHas (fun vs H Q E h => ?_) (fun cdv A outer s H vs Q E hr h => ?_)
  · obtain ⟨x, n, ps, i, rfl, _⟩ := h
    rfl
  · obtain ⟨x, n, ps, i, rfl, ⟨dx, q, lv, en, as, ls, es, hx, hq, hP, _⟩, k⟩ := h
    have hl : as.length = ps.length := Paired.length hP
    refine ⟨_, pss_one (ps_ret (pe_chain op_le op_lt pe_int (pv 1) (pe_callB call_len_seq (by rfl) mLen PySem.boot_len (pa_cons (pe_fld (pv 0) rfl) pa_nil)))), ?_⟩
    refine ⟨_, rfl, _, _, rfl, rfl, _, rfl, ?_⟩
    refine ite2 (fun h0 => ?_) (fun h0 => ?_)
    · refine ⟨_, rfl, x, C, dx, _, _, rfl, hx, T.cl, T.nP, wf_pairs _ _ _ _, q, _, rfl, .inr hq.sq, _, _, rfl, rfl, ?_⟩
      have h0' : 0 ≤ i := of_decide_eq_true h0
      have e : decide (i < ((as.length : Nat) : Int)) = decide (0 ≤ i ∧ i < ((ps.length : Nat) : Int)) := by rw [hl]; simp [h0']
      dsimp only
      rw [e]
      exact k
    · have h0' : ¬ 0 ≤ i := fun z => h0 (decide_eq_true z)
      have e : decide (0 ≤ i ∧ i < ((ps.length : Nat) : Int)) = false := by simp [h0']
      rw [e] at k
      exact k
theorem scNeedA : FnScope ["self", "arrow"] ["self", "arrow"] (defScope sNeedA) := ⟨rfl, rfl, rfl, by decide +kernel, rfl, by decide +kernel, by decide +kernel⟩
theorem wf_meth (n : Nat) (q lv en : Addr) {m : Str} (h : (decide (m = "entering") || decide (m = "leaving") || decide (m = "pairs") || decide (m = "room_total")) = false) : (wf n q lv en).lookup m = none := by
  simp only [Bool.or_eq_false_iff, decide_eq_false_iff_not] at h
  exact wf_no _ _ _ _ h.1.1.1 h.1.1.2 h.1.2 h.2
theorem ok_need_arrow {f fH C : Addr} {fd fdH : FuncData} (F : Fun K "need_arrow" "Web.need_arrow" sNeedA f fd) (T : WebC K C) (GH : FnOk P w K mg base CX0 1 fH fdH ["self", "arrow"] (spHas C)) (bH : Binds K fdH ["self", "arrow"] []) (mH : Meth K C "has_arrow" fH) :
    FnOk P w K mg base CX0 2 f fd ["self", "arrow"] (spNeedA C) := by
  refine F.ok scNeedA (fun vs H Q E h => ?_) (fun cdv A outer s H vs Q E hr h => ?_)
  · obtain ⟨x, n, ps, i, rfl, _⟩ := h
    rfl
  · obtain ⟨x, n, ps, i, rfl, W, hi, k⟩ := h
    obtain ⟨dx, q, lv, en, as, ls, es, hx, hq, hP, _⟩ := id W
    refine ⟨_, pss_one (ps_if (pt_not (pt_val (pe_meth (pv 0) T.cl mH GH hr bH .nil pass0 (pa_cons (pv 1) pa_nil)))) pss_never pss_nil), ?_⟩
    have e : decide (0 ≤ ((i : Nat) : Int) ∧ ((i : Nat) : Int) < ((ps.length : Nat) : Int)) = true := decide_eq_true ⟨by omega, by omega⟩
    exact ⟨_, rfl, x, dx, _, rfl, hx, wf_meth _ _ _ _ (by decide +kernel), _, rfl, x, n, ps, i, rfl, W, true, congrArg V.bl e, iteF k⟩
theorem scNeedR : FnScope ["self", "room"] ["self", "room"] (defScope sNeedR) := ⟨rfl, rfl, rfl, by decide +kernel, rfl, by decide +kernel, by decide +kernel⟩
theorem ok_need_room {f C : Addr} {fd : FuncData} (F : Fun K "need_room" "Web.need_room" sNeedR f fd) (T : WebC K C) : FnOk P w K mg base CX0 1 f fd ["self", "room"] (spNeedR C) := by
  refine F.ok scNeedR (fun vs H Q E h => ?_) (fun cdv A outer s H vs Q E hr h => ?_)
  · obtain ⟨x, n, ps, i, rfl, _⟩ := h
    rfl
  · obtain ⟨x, n, ps, i, rfl, ⟨dx, q, lv, en, as, ls, es, hx, hq, hP, _⟩, hi, k⟩ := h
    refine ⟨_, pss_one (ps_if (pt_not (pt_chain op_le op_lt pe_int (pv 1) (pe_fld (pv 0) rfl))) pss_never pss_nil), ?_⟩
    have d1 : decide ((0 : Int) ≤ (i : Int)) = true := decide_eq_true (by omega)
    have d2 : decide ((i : Int) < (n : Int)) = true := decide_eq_true (by omega)
    exact ⟨_, rfl, _, _, rfl, rfl, true, congrArg V.bl d1, iteT ⟨_, rfl, x, C, dx, _, _, rfl, hx, T.cl, T.nT, wf_total _ _ _ _, _, _, rfl, rfl, true, congrArg V.bl d2, iteF k⟩⟩
theorem scRooms : FnScope ["self"] ["self"] (defScope sRooms) := ⟨rfl, rfl, rfl, by decide +kernel, rfl, by decide +kernel, by decide +kernel⟩
theorem ok_rooms {f C : Addr} {fd : FuncData} (F : Fun K "rooms" "Web.rooms" sRooms f fd) (T : WebC K C) : FnOk P w K mg base CX0 1 f fd ["self"] (spRooms C) := by
  refine F.ok scRooms (fun vs H Q E h => ?_) (fun cdv A outer s H vs Q E hr h => ?_)
  · obtain ⟨x, n, ps, rfl, _⟩ := h
    rfl
  · obtain ⟨x, n, ps, rfl, ⟨dx, q, lv, en, as, ls, es, hx, hq, hP, _⟩, k⟩ := h
    exact ⟨_, pss_one (ps_ret (pe_fld (pv 0) rfl)), _, rfl, x, C, dx, _, _, rfl, hx, T.cl, T.nT, wf_total _ _ _ _, k⟩
theorem scLen : FnScope ["self"] ["self"] (defScope sLen) := ⟨rfl, rfl, rfl, by decide +kernel, rfl, by decide +kernel, by decide +kernel⟩
theorem ok_len {f C : Addr} {fd : FuncData} (F : Fun K "__len__" "Web.__len__" sLen f fd) (T : WebC K C) (mLen : mg "len" = none) : FnOk P w K mg base CX0 1 f fd ["self"] (spLen C) := by
  refine F.ok scLen (fun vs H Q E h => ?_) (fun cdv A outer s H vs Q E hr h => ?_)
  · obtain ⟨x, n, ps, rfl, _⟩ := h
    rfl
  · obtain ⟨x, n, ps, rfl, ⟨dx, q, lv, en, as, ls, es, hx, hq, hP, _⟩, k⟩ := h
    have hl : as.length = ps.length := Paired.length hP
    refine ⟨_, pss_one (ps_ret (pe_callB call_len_seq (by rfl) mLen PySem.boot_len (pa_cons (pe_fld (pv 0) rfl) pa_nil))), _, rfl, x, C, dx, _, _, rfl, hx, T.cl, T.nP, wf_pairs _ _ _ _, q, _, rfl, .inr hq.sq, ?_⟩
    rw [hl]
    exact k
theorem scArrows : FnScope ["self"] ["self"] (defScope sArrows) := ⟨rfl, rfl, rfl, by decide +kernel, rfl, by decide +kernel, by decide +kernel⟩
theorem ok_arrows {f C : Addr} {fd : FuncData} (F : Fun K "arrows" "Web.arrows" sArrows f fd) (T : WebC K C) (mList : mg "list" = none) : FnOk P w K mg base CX0 1 f fd ["self"] (spArrows C) := by
  refine F.ok scArrows (fun vs H Q E h => ?_) (fun cdv A outer s H vs Q E hr h => ?_)
  · obtain ⟨x, n, ps, rfl, _⟩ := h
    rfl
  · obtain ⟨x, n, ps, rfl, ⟨dx, q, lv, en, as, ls, es, hx, hq, hP, _⟩, k⟩ := h
    exact ⟨_, pss_one (ps_ret (pe_callTy call_list_of (by rfl) mList (by decide +kernel) (pa_cons (pe_fld (pv 0) rfl) pa_nil))), _, rfl, x, C, dx, _, _, rfl, hx, T.cl, T.nP, wf_pairs _ _ _ _, q, _, rfl, .inr hq.sq, fun l hl =>
      k _ l as (same_new (Same.refl H) hl) hl upd_same (PairsIn.kp (Kp.new hl) hP)⟩
theorem scBegin : FnScope ["self", "arrow"] ["self", "arrow"] (defScope sBegin) := ⟨rfl, rfl, rfl, by decide +kernel, rfl, by decide +kernel, by decide +kernel⟩
theorem ok_begin {f fN C : Addr} {fd fdN : FuncData} (F : Fun K "begin" "Web.begin" sBegin f fd) (T : WebC K C) (GN : FnOk P w K mg base CX0 2 fN fdN ["self", "arrow"] (spNeedA C)) (bN : Binds K fdN ["self", "arrow"] []) (mN : Meth K C "need_arrow" fN) :
    FnOk P w K mg base CX0 3 f fd ["self", "arrow"] (spBegin C) := by
  refine F.ok scBegin (fun vs H Q E h => ?_) (fun cdv A outer s H vs Q E hr h => ?_)
  · obtain ⟨x, n, ps, i, p, rfl, _⟩ := h
    rfl
  · obtain ⟨x, n, ps, i, p, rfl, W, hp, k⟩ := h
    obtain ⟨dx, q, lv, en, as, ls, es, hx, hq, hP, _⟩ := id W
    have hi : i < ps.length := (List.getElem?_eq_some_iff.mp hp).1
    obtain ⟨c, hc, hcp⟩ := pair_at hP hp
    refine ⟨_, pss_cons (ps_expr (pe_meth (pv 0) T.cl mN GN hr bN .nil pass0 (pa_cons (pv 1) pa_nil))) (pss_one (ps_ret (pe_ix ix_tup (pe_ix ix_tup (pe_fld (pv 0) rfl) (pv 1) (fun _ _ => rfl)) pe_int (fun _ _ => rfl)))), ?_⟩
    exact ⟨_, rfl, x, dx, _, rfl, hx, wf_meth _ _ _ _ (by decide +kernel), _, rfl, x, n, ps, i, rfl, W, hi, _, rfl, x, C, dx, _, _, rfl, hx, T.cl, T.nP, wf_pairs _ _ _ _, _, rfl, q, _, _, _, rfl, rfl, hq.sq, atI_nat hc, c, _, _, _, rfl, rfl, SqT.of hcp, rfl, k⟩
theorem scEnd : FnScope ["self", "arrow"] ["self", "arrow"] (defScope sEnd) := ⟨rfl, rfl, rfl, by decide +kernel, rfl, by decide +kernel, by decide +kernel⟩
theorem scOuts : FnScope ["self", "room"] ["self", "room"] (defScope sOuts) := ⟨rfl, rfl, rfl, by decide +kernel, rfl, by decide +kernel, by decide +kernel⟩
theorem ok_outs {f fN C : Addr} {fd fdN : FuncData} (F : Fun K "outs" "Web.outs" sOuts f fd) (T : WebC K C) (GN : FnOk P w K mg base CX0 1 fN fdN ["self", "room"] (spNeedR C)) (bN : Binds K fdN ["self", "room"] []) (mN : Meth K C "need_room" fN) (mList : mg "list" = none) :
    FnOk P w K mg base CX0 2 f fd ["self", "room"] (spOuts C) := by
  refine F.ok scOuts (fun vs H Q E h => ?_) (fun cdv A outer s H vs Q E hr h => ?_)
  · obtain ⟨x, n, ps, r, rfl, _⟩ := h
    rfl
  · obtain ⟨x, n, ps, r, rfl, W, hi, k⟩ := h
    obtain ⟨dx, q, lv, en, as, ls, es, hx, hq, hP, hlv, hR, hen, hR2⟩ := id W
    obtain ⟨c, hc, hcp⟩ := row_at hR (gat_at _ hi)
    refine ⟨_, pss_cons (ps_expr (pe_meth (pv 0) T.cl mN GN hr bN .nil pass0 (pa_cons (pv 1) pa_nil))) (pss_one (ps_ret (pe_callTy call_list_of (by rfl) mList (by decide +kernel) (pa_cons (pe_ix ix_tup (pe_fld (pv 0) rfl) (pv 1) (fun _ _ => rfl)) pa_nil)))), ?_⟩
    exact ⟨_, rfl, x, dx, _, rfl, hx, wf_meth _ _ _ _ (by decide +kernel), _, rfl, x, n, ps, r, rfl, W, hi, _, rfl, x, C, dx, _, _, rfl, hx, T.cl, T.nL, wf_leaving _ _ _ _, _, rfl, lv, _, _, _, rfl, rfl, SqT.of hlv, atI_nat hc, c, _, rfl, .inr (SqT.of hcp), fun l hl =>
      k _ l (same_new (Same.refl H) hl) hl upd_same⟩
theorem scIns : FnScope ["self", "room"] ["self", "room"] (defScope sIns) := ⟨rfl, rfl, rfl, by decide +kernel, rfl, by decide +kernel, by decide +kernel⟩
theorem scLeading : FnScope ["self", "one", "other"] ["self", "one", "other"] (defScope sLeading) := ⟨rfl, rfl, rfl, by decide +kernel, rfl, by decide +kernel, by decide +kernel⟩
theorem scRepr : FnScope ["self"] ["self"] (defScope sRepr) := ⟨rfl, rfl, rfl, by decide +kernel, rfl, by decide +kernel, by decide +kernel⟩
theorem ok_repr {f C : Addr} {fd : FuncData} (F : Fun K "__repr__" "Web.__repr__" sRepr f fd) (T : WebC K C) (mLen : mg "len" = none) : FnOk P w K mg base CX0 1 f fd ["self"] (spRepr C) := by
  refine F.ok scRepr (fun vs H Q E h => ?_) (fun cdv A outer s H vs Q E hr h => ?_)
  · obtain ⟨x, n, ps, rfl, _⟩ := h
    rfl
  · obtain ⟨x, n, ps, rfl, ⟨dx, q, lv, en, as, ls, es, hx, hq, hP, _⟩, hn, hp, k⟩ := h
    have hl : as.length = ps.length := Paired.length hP
    have l1 := numT_len n hn
    have l2 := numT_len ps.length hp
    have c1 : ("Web(" : Str).length = 4 := by decide +kernel
    have c2 : (" rooms, " : Str).length = 8 := by decide +kernel
    have c3 : (" arrows)" : Str).length = 8 := by decide +kernel
    have c0 : Str.empty.length = 0 := by decide +kernel
    have b1 : (Str.empty ++ "Web(").length ≤ sizeLine := by rw [str_len_append, sizeLine_eq]; omega
    have b2 : (Str.empty ++ "Web(" ++ numT n).length ≤ sizeLine := by rw [str_len_append, str_len_append, sizeLine_eq]; omega
    have b3 : (Str.empty ++ "Web(" ++ numT n ++ " rooms, ").length ≤ sizeLine := by rw [str_len_append, str_len_append, str_len_append, sizeLine_eq]; omega
    have b4 : (Str.empty ++ "Web(" ++ numT n ++ " rooms, " ++ numT ps.length).length ≤ sizeLine := by rw [str_len_append, str_len_append, str_len_append, str_len_append, sizeLine_eq]; omega
    have b5 : (webTxt n ps.length).length ≤ sizeLine := by unfold webTxt; rw [str_len_append, str_len_append, str_len_append, str_len_append, str_len_append, sizeLine_eq]; omega
    refine ⟨_, pss_one (ps_ret (pe_joined (.cons pe_str (.cons (pe_fmt (pe_fld (pv 0) rfl)) (.cons pe_str (.cons (pe_fmt (pe_callB call_len_seq (by rfl) mLen PySem.boot_len (pa_cons (pe_fld (pv 0) rfl) pa_nil))) (.cons pe_str .nil))))))), ?_⟩
    refine ⟨_, rfl, b1, _, rfl, x, C, dx, _, _, rfl, hx, T.cl, T.nT, wf_total _ _ _ _, .inr ⟨_, rfl, small_log n hn, numT n, rfl, b2, _, rfl, b3, _, rfl, x, C, dx, _, _, rfl, hx, T.cl, T.nP, wf_pairs _ _ _ _, q, _, rfl, .inr hq.sq, .inr ⟨_, rfl, ?_, numT ps.length, ?_, b4, _, rfl, b5, k⟩⟩⟩
    · rw [hl]
      exact small_log _ hp
    · rw [hl]
      rfl
theorem scEq : FnScope ["self", "other"] ["self", "other"] (defScope sEq) := ⟨rfl, rfl, rfl, by decide +kernel, rfl, by decide +kernel, by decide +kernel⟩
theorem ok_eq {f C : Addr} {fd : FuncData} (F : Fun K "__eq__" "Web.__eq__" sEq f fd) (T : WebC K C) (TQ : WebQ K C) (mIsi : mg "isinstance" = none) (mC : mg "Web" = some (.ref C)) : FnOk P w K mg base CX0 1 f fd ["self", "other"] (spEq C) := by
  refine F.ok scEq (fun vs H Q E h => ?_) (fun cdv A outer s H vs Q E hr h => ?_)
  · obtain ⟨x, y, n, ps, rfl, _⟩ := h
    rfl
  · obtain ⟨x, y, n, ps, rfl, ⟨dx, q, lv, en, as, ls, es, hx, hq, hP, _⟩, k⟩ := h
    refine ⟨_, pss_one (ps_ret (pe_and (pe_callB call_isi (by rfl) mIsi (by decide +kernel) (pa_cons (pv 1) (pa_cons (pe_glob (v := .ref C) rfl mC rfl) pa_nil)))
      (pe_and (pe_cmpR op_eq (pe_fld (pv 0) rfl) (pe_fld (pv 1) rfl) (nomark _)) (pe_one (pe_cmpR (op_eqD hr.units) (pe_fld (pv 0) rfl) (pe_fld (pv 1) rfl) (nomark _)))))), ?_⟩
    rcases k with ⟨m, qs, ⟨dy, q2, lv2, en2, as2, ls2, es2, hy, hq2, hP2, _⟩, k⟩ | ⟨ys, ⟨oy, hy, _⟩, k⟩
    · refine ⟨_, rfl, .ref y, .ref C, .ref C, .ref C, true, rfl, .own C, .base (.ins hy T.cl TQ.ha TQ.hn TQ.ht TQ.hm), TQ.kO, true, rfl, iteT ?_⟩
      refine ⟨_, rfl, x, C, dx, _, _, rfl, hx, T.cl, T.nT, wf_total _ _ _ _, _, rfl, y, C, dy, _, _, rfl, hy, T.cl, T.nT, wf_total _ _ _ _, rfl, _, rfl, ?_⟩
      refine ite2 (fun e => ?_) (fun e => ?_)
      · have e1 : n = m := by
          have z := of_decide_eq_true e
          injection z with z
          omega
        refine ⟨_, rfl, x, C, dx, _, _, rfl, hx, T.cl, T.nP, wf_pairs _ _ _ _, _, rfl, y, C, dy, _, _, rfl, hy, T.cl, T.nP, wf_pairs _ _ _ _, .tuple (ps.map pD), .tuple (qs.map pD), .tup hq.sq (dp_pairs hP), .tup hq2.sq (dp_pairs hP2), pDs_shaped _, pDs_shaped _, ?_⟩
        have e2 : PyData.eqv (.tuple (ps.map pD)) (.tuple (qs.map pD)) = decide (n = m ∧ ps = qs) := by
          simp only [PyData.eqv, pDs_eqv, e1, true_and]
        rw [e2]
        exact k
      · have e1 : ¬ n = m := fun z => e (decide_eq_true (by rw [z]))
        have e2 : decide (n = m ∧ ps = qs) = false := decide_eq_false fun z => e1 z.1
        rw [e2] at k
        exact k
    · exact ⟨_, rfl, .ref y, .ref C, .type "tuple", .ref C, false, rfl, .own C, .fTuple hy, TQ.kT, false, rfl, iteF k⟩
end
end KW


set_option Elab.async false
set_option maxRecDepth 100000
/-! The law's own: outs, ins, count, naming, named. -/
namespace KW
open PySem PySem.Spec PyProof.Rows L2
abbrev sLOuts : Stmt := topS 35
def spLOuts : Sp := fun vs H Q _ => ∃ (t : Addr) (n : Nat) (ps : List (Nat × Nat)) (r : Nat), vs = [.ref t, .int r] ∧ WebT H t n ps ∧ ps.length ≤ 500 ∧ ∀ (H' : Hp) (l : Addr), Same H H' → H l = none → H' l = some (.lst (nums (idxs (ps.map (·.1)) r 0))) → Q (.ref l) H'
def spLIns : Sp := fun vs H Q _ => ∃ (t : Addr) (n : Nat) (ps : List (Nat × Nat)) (r : Nat), vs = [.ref t, .int r] ∧ WebT H t n ps ∧ ps.length ≤ 500 ∧ ∀ (H' : Hp) (l : Addr), Same H H' → H l = none → H' l = some (.lst (nums (idxs (ps.map (·.2)) r 0))) → Q (.ref l) H'
def spLCount : Sp := fun vs H Q _ => ∃ (t : Addr) (n : Nat) (ps : List (Nat × Nat)) (r s : Nat), vs = [.ref t, .int r, .int s] ∧ WebT H t n ps ∧ ∀ H' : Hp, Same H H' → Q (.int (cnt ps r s)) H'
def spNaming : Sp := fun vs H Q _ => ∃ (b l : Addr) (ns : List Int) (t : Addr) (n : Nat) (ps : List (Nat × Nat)), vs = [.ref b, .ref t] ∧ BagAt b l ns H ∧ WebT H t n ps ∧ n ≤ 500 ∧ ps.length ≤ 500 ∧
  ∀ (H' : Hp) (u a1 a2 : Addr) (rs is : List Nat), Grow b H H' → BagAt b l ns H' → H' u = some (.tup [.ref a1, .ref a2]) → H' a1 = some (.lst (nums rs)) → H' a2 = some (.lst (nums is)) → rs.Perm (List.range n) → is.Perm (List.range ps.length) → Q (.ref u) H'
def spNamed (K : PySem.W.Frag) : Sp := fun vs H Q _ => ∃ (t a1 a2 : Addr) (n : Nat) (ps : List (Nat × Nat)) (rs is : List Nat), vs = [.ref t, .ref a1, .ref a2] ∧ WebT H t n ps ∧ n ≤ 500 ∧ ps.length ≤ 500 ∧ H a1 = some (.lst (nums rs)) ∧ H a2 = some (.lst (nums is)) ∧ rs.Perm (List.range n) ∧ is.Perm (List.range ps.length) ∧
  ∀ (H' : Hp) (u : Addr) (qs : List (Nat × Nat)), Same H H' → WebT H' u n qs → qs.length = ps.length → Q (.ref u) H'
theorem rg_nums (n : Nat) : rgV 0 (n : Int) = nums (List.range n) := by
  unfold rgV nums
  have e : ((n : Int) - 0).toNat = n := by omega
  rw [e]
  apply List.map_congr_left
  intro i _
  show V.int (0 + (i : Int)) = V.int (i : Int)
  rw [Int.zero_add]
theorem perm_nums {ys : List V} {l : List Nat} (h : ys.Perm (nums l)) : ∃ rs, ys = nums rs ∧ rs.Perm l := by
  have paired : Paired (fun v i => v = nV i) (nums l) l := by
    have all : ∀ l : List Nat, Paired (fun v i => v = nV i) (nums l) l := by
      intro l
      induction l with
      | nil => exact .nil
      | cons i l ih => exact .cons rfl ih
    exact all l
  obtain ⟨rs, h1, h2⟩ := paired_perm h paired
  refine ⟨rs, ?_, h2⟩
  have back : ∀ {vs : List V} {l : List Nat}, Paired (fun v i => v = nV i) vs l → vs = nums l := by
    intro vs l r
    induction r with
    | nil => rfl
    | cons e _ ih => rw [e, ih]; rfl
  exact back h1
theorem nums_at {l : List Nat} {i j : Nat} (h : l[i]? = some j) : (nums l)[i]? = some (.int (j : Int)) := by
  unfold nums
  rw [List.getElem?_map, h]
  rfl
section
variable {P : Program} {w : World} {K : PySem.W.Frag} {mg : Str → Option Value} {base : Heap}
abbrev nLOuts : List Str := ["_law_w", "_law_room", "_law_at", "_law_pair"]
theorem scLOuts : FnScope nLOuts ["_law_w", "_law_room"] (defScope sLOuts) := ⟨rfl, rfl, rfl, by decide +kernel, rfl, by decide +kernel, by decide +kernel⟩
theorem ok_louts {f : Addr} {fd : FuncData} (F : Fun K "_law_outs" "_law_outs" sLOuts f fd) (mEnum : mg "enumerate" = none) : FnOk P w K mg base CX0 1 f fd ["_law_w", "_law_room"] spLOuts := by
  refine F.ok scLOuts (fun vs H Q E h => ?_) (fun cdv A outer s H vs Q E hr h => ?_)
  · obtain ⟨t, n, ps, r, rfl, _⟩ := h
    rfl
  · obtain ⟨t, n, ps, r, rfl, ⟨q, as, ht, hq, hP, hG⟩, hlen, k⟩ := h
    have hl : as.length = ps.length := Paired.length hP
    refine ⟨_, pss_one (ps_ret (pe_lc (own := [("_law_at", 2), ("_law_pair", 3)]) (g := gTup K 2 (gCons (gName 2) (gCons (gName 3) gNil))) rfl scLOuts.nd (pi_enT (by rfl) mEnum (pa_cons (pe_ix ix_tup (pv 0) pe_int (fun _ _ => rfl)) pa_nil))
      (blkOk_by (own := [("_law_at", 2), ("_law_pair", 3)]) (N := nLOuts) (sc := defScope sLOuts) (by decide +kernel)) (fun _ _ _ _ _ => pg_tup rfl (pgs_cons (pg_name (i := 2) scLOuts.nd rfl (Or.inl rfl)) (pgs_cons (pg_name (i := 3) scLOuts.nd rfl (Or.inl rfl)) pgs_nil)))
      (fun _ _ _ _ _ => pts_one (pt_cmpR op_eq (pe_ix (ix_tupK (K := K) rfl) (pv 3) pe_int (fun _ _ => rfl)) (pv 1) (nomark _))) (fun _ _ _ _ _ => pv 2))), ?_⟩
    refine ⟨_, rfl, t, _, _, _, rfl, rfl, SqT.of ht, rfl, q, as, rfl, hq.sq, fun D hD => ?_⟩
    refine lc_it (walk_enT (K := K) (a := q) (xs := as)) (fun i H' => H' D = some (.lst (nums (idxs ((ps.take i).map (·.1)) r 0))) ∧ Same H H')
      ⟨upd_same, same_new (Same.refl H) hD⟩ (fun i H' _ ⟨_, s'⟩ => ((Same.kp s').f hq).sq) ?_ ?_
    · rintro i x H' H2 hi ⟨hD', s'⟩ ⟨T, x1, x2, rfl, hT, rfl, e1, e2⟩
      have e1 : V.int (i : Nat) = x1 := Option.some.inj e1
      subst e1
      obtain ⟨p, c, hp, rfl, hc⟩ := pairs_get hP e2
      have nDT : D ≠ T := ne_of_none hD' hT
      have hc2 : upd H' T (.tup [.int (i : Nat), .ref c]) c = some (.tup [.int p.1, .int p.2]) := by rw [upd_ne (ne_of_none (s' _ _ hc) hT)]; exact s' _ _ hc
      have hD2 : upd H' T (.tup [.int (i : Nat), .ref c]) D = some (.lst (nums (idxs ((ps.take i).map (·.1)) r 0))) := by rw [upd_ne nDT]; exact hD'
      have tl : ((ps.take i).map (·.1)).length = i := by
        have := (List.getElem?_eq_some_iff.mp hp).1
        rw [List.length_map, List.length_take]
        omega
      have et : (ps.take (i + 1)).map (·.1) = (ps.take i).map (·.1) ++ [p.1] := by
        rw [take_snoc hp, List.map_append]
        rfl
      refine ⟨T, _, rfl, SqT.of upd_same, rfl, _, _, rfl, _, _, rfl, rfl, rfl, _, rfl, c, _, _, _, rfl, rfl, SqT.of hc2, rfl, _, rfl, rfl, _, rfl, ?_⟩
      refine ite2 (fun e => ?_) (fun e => ?_)
      · have e' : p.1 = r := by
          have z := of_decide_eq_true e
          injection z with z
          omega
        refine ⟨_, rfl, _, hD2, ?_, ?_, same_put (same_new s' hT) hD⟩
        · have := idxs_len r ((ps.take i).map (·.1)) 0
          rw [sizeLine_eq]
          simp only [nums, List.length_map] at this ⊢
          have := List.length_take_le' i ps
          omega
        · rw [upd_same, et, idxs_snoc, if_pos e', tl, Nat.zero_add, nums_snoc]
      · have e' : ¬ p.1 = r := fun z => e (decide_eq_true (by rw [z]))
        refine ⟨?_, same_new s' hT⟩
        rw [et, idxs_snoc, if_neg e', List.append_nil]
        exact hD2
    · rintro H' ⟨hD', s'⟩
      rw [hl, List.take_length] at hD'
      exact k H' D s' hD hD'
end
end KW


set_option Elab.async false
set_option maxRecDepth 100000
set_option maxHeartbeats 1000000
/-! The law's drawing: of, far. -/
namespace KW
open PySem PySem.Spec PyProof.Rows L2
abbrev sOf : Stmt := topS 31
def spOf (K : PySem.W.Frag) : Sp := fun vs H Q _ => ∃ (b l a : Addr) (ns : List Int) (xs : List V), vs = [.ref b, .ref a] ∧ BagAt b l ns H ∧ SqL K H a xs ∧ a ≠ b ∧ (∀ o, H a = some o → ∃ ys, o = .lst ys) ∧ 1 ≤ xs.length ∧ xs.length ≤ 1000 ∧
  ∀ (H' : Hp) (v : V), Off b H H' → BagAt b l ns H' → v ∈ xs → Q v H'
def spFar : Sp := fun vs H Q _ => ∃ (b l : Addr) (ns : List Int), vs = [.ref b] ∧ BagAt b l ns H ∧ ∀ (H' : Hp) (i : Int), Grow b H H' → BagAt b l ns H' → (i < 0 ∨ 1000000000 ≤ i) → Q (.int i) H'
section
variable {P : Program} {w : World} {K : PySem.W.Frag} {mg : Str → Option Value} {base : Heap}
theorem scOf : FnScope ["_law_bag_here", "_law_some"] ["_law_bag_here", "_law_some"] (defScope sOf) := ⟨rfl, rfl, rfl, by decide +kernel, rfl, by decide +kernel, by decide +kernel⟩
theorem ok_of {f fP : Addr} {fd fdP : FuncData} (F : Fun K "_law_of" "_law_of" sOf f fd) (GP : FnOk P w K mg base CX0 1 fP fdP ["_law_bag_here", "_law_many"] spPull) (bP : Binds K fdP ["_law_bag_here", "_law_many"] []) (mP : mg "_law_pull" = some (.ref fP)) (kP : PySem.W.keepIn K (.ref fP) = true) (mLen : mg "len" = none) :
    FnOk P w K mg base CX0 2 f fd ["_law_bag_here", "_law_some"] (spOf K) := by
  refine F.ok scOf (fun vs H Q E h => ?_) (fun cdv A outer s H vs Q E room h => ?_)
  · obtain ⟨b, l, a, ns, xs, rfl, _⟩ := h
    rfl
  · obtain ⟨b, l, a, ns, xs, rfl, B, hS, nab, hl, h1, h2, k⟩ := h
    refine ⟨_, pss_one (ps_ret (pe_ix ix_list (pv 1) (pe_call GP room rfl mP kP bP .nil pass0 (pa_cons (pv 0) (pa_cons (pe_callB call_len_seq (by rfl) mLen PySem.boot_len (pa_cons (pv 1) pa_nil)) pa_nil))) (fun _ _ => rfl))), ?_⟩
    refine ⟨_, rfl, _, rfl, _, rfl, a, _, rfl, .inl hS, b, l, ns, _, rfl, B, by omega, by omega, fun H2 r h0 hr O2 B2 => ?_⟩
    obtain ⟨j, rfl⟩ := Int.eq_ofNat_of_zero_le h0
    have hj : j < xs.length := by omega
    have hS2 : SqL K H2 a xs := by
      rcases hS with (h | ⟨o, h⟩) | h
      · exact .inl (.inl (by rw [O2 a nab]; exact h))
      · exact .inl (.inr ⟨o, by rw [O2 a nab]; exact h⟩)
      · exact .inr h
    exact ⟨a, _, _, _, rfl, rfl, hS2, atI_nat (List.getElem?_eq_getElem hj), k H2 _ O2 B2 (List.getElem_mem hj)⟩
end
end KW


set_option Elab.async false
set_option maxRecDepth 100000
set_option maxHeartbeats 2000000
/-! The law's own: on, many, rows. -/
namespace KW
open PySem PySem.Spec PyProof.Rows L2
abbrev sLOn : Stmt := topS 36
/-- how many rows begin in each room -/
def cntL (n : Nat) (ps : List (Nat × Nat)) : Nat → List Nat
  | 0 => List.replicate n 1
  | k + 1 => (List.range n).map fun r => sm (idxs (ps.map (·.1)) r 0) fun a => (cntL n ps k).getD (ps.getD a (0, 0)).2 0
theorem cntL_len {n : Nat} {ps : List (Nat × Nat)} : ∀ k, (cntL n ps k).length = n
  | 0 => List.length_replicate
  | k + 1 => by
    unfold cntL
    rw [List.length_map, List.length_range]
def spLOn : Sp := fun vs H Q _ => ∃ (t : Addr) (n : Nat) (ps : List (Nat × Nat)) (a : Nat), vs = [.ref t, .int a] ∧ WebT H t n ps ∧ ps.length ≤ 500 ∧ a < ps.length ∧ ∀ (H' : Hp) (l : Addr), Same H H' → H l = none → H' l = some (.lst (nums (onOf ps a))) → Q (.ref l) H'
def spLMany : Sp := fun vs H Q _ => ∃ (t : Addr) (n : Nat) (ps : List (Nat × Nat)) (k : Nat), vs = [.ref t, .int k] ∧ WebT H t n ps ∧ n ≤ 500 ∧ ps.length ≤ 500 ∧ k ≤ 1000 ∧ ∀ H' : Hp, Same H H' → Q (.int ((cntL n ps k).sum : Nat)) H'
def spLRows : Sp := fun vs H Q _ => ∃ (t : Addr) (n : Nat) (ps : List (Nat × Nat)) (k : Nat), vs = [.ref t, .int ((k + 1 : Nat) : Int)] ∧ WebT H t n ps ∧ ps.length ≤ 500 ∧ k ≤ 1000 ∧ (∀ j, j ≤ k → (rowsF ps j).length ≤ 100000) ∧
  ∀ (H' : Hp) (l : Addr) (vs : List V), Same H H' → H l = none → H' l = some (.lst vs) → RowsIn H' vs (rowsF ps k) → Q (.ref l) H'
theorem onOf_at {ps : List (Nat × Nat)} {a : Nat} {p : Nat × Nat} (h : ps[a]? = some p) : onOf ps a = idxs (ps.map (·.1)) p.2 0 := by
  unfold onOf
  rw [List.getD_eq_getElem?_getD, h]
  rfl
theorem idxs_lt (r : Nat) : ∀ (ps : List Nat) (k a : Nat), a ∈ idxs ps r k → k ≤ a ∧ a < k + ps.length
  | [], _, _, h => absurd h (by simp [idxs])
  | p :: ps, k, a, h => by
    unfold idxs at h
    have go : a ∈ idxs ps r (k + 1) → k ≤ a ∧ a < k + (p :: ps).length := fun h => by
      have z := idxs_lt r ps (k + 1) a h
      rw [List.length_cons]
      omega
    split at h
    · rcases List.mem_cons.mp h with e | h
      · rw [e, List.length_cons]
        omega
      · exact go h
    · exact go h
theorem sumI : ∀ l : List Nat, ((l.map fun i : Nat => (i : Int)).sum) = (l.sum : Nat)
  | [] => rfl
  | i :: l => by rw [List.map_cons, List.sum_cons, List.sum_cons, sumI l, Int.natCast_add]
theorem numsI (l : List Nat) : nums l = (l.map fun i : Nat => (i : Int)).map V.int := by
  unfold nums nV
  rw [List.map_map]
  rfl
theorem nums_get {l : List Nat} {j : Nat} {y : V} (h : (nums l)[j]? = some y) : ∃ a, l[j]? = some a ∧ y = .int (a : Int) := by
  unfold nums at h
  rw [List.getElem?_map] at h
  cases q : l[j]? with
  | none =>
    rw [q] at h
    cases h
  | some a =>
    rw [q] at h
    exact ⟨a, rfl, (Option.some.inj h).symm⟩
theorem rep_nums (n i : Nat) : (List.replicate ((n : Int)).toNat [V.int (i : Int)]).flatten = nums (List.replicate n i) := by
  rw [List.flatten_replicate_singleton]
  unfold nums nV
  rw [List.map_replicate]
  rfl
theorem nums_sum {l : List Nat} : ((l.map fun i : Nat => (i : Int)).sum) = ((sm l id : Nat) : Int) := by
  rw [sumI]
  unfold sm
  rw [List.map_id]
theorem sm_id {α : Type} (f : α → Nat) (xs : List α) : sm (xs.map f) id = sm xs f := sm_map f id xs
theorem rowsF_len {ps : List (Nat × Nat)} : ∀ {k : Nat} {r : List Nat}, r ∈ rowsF ps k → r.length = k + 1
  | 0, r, h => by
    obtain ⟨a, _, e⟩ := List.mem_map.mp h
    rw [← e]
    rfl
  | k + 1, r, h => by
    obtain ⟨q, h1, h2⟩ := List.mem_flatMap.mp h
    obtain ⟨a, _, e⟩ := List.mem_map.mp h2
    rw [← e, List.length_append, rowsF_len h1]
    rfl
theorem rowsF_lt {ps : List (Nat × Nat)} : ∀ {k : Nat} {r : List Nat}, r ∈ rowsF ps k → ∀ a ∈ r, a < ps.length
  | 0, r, h, a, ha => by
    obtain ⟨b, hb, e⟩ := List.mem_map.mp h
    rw [← e, List.mem_singleton] at ha
    rw [ha]
    exact List.mem_range.mp hb
  | k + 1, r, h, a, ha => by
    obtain ⟨q, h1, h2⟩ := List.mem_flatMap.mp h
    obtain ⟨b, hb, e⟩ := List.mem_map.mp h2
    rw [← e] at ha
    rcases List.mem_append.mp ha with z | z
    · exact rowsF_lt h1 a z
    · rw [List.mem_singleton.mp z]
      have y := (idxs_lt _ _ _ _ hb).2
      rw [List.length_map] at y
      omega
theorem flat_take {α β : Type} (f : α → List β) (xs : List α) (j : Nat) : ((xs.take j).flatMap f).length ≤ (xs.flatMap f).length := by
  have e : xs.flatMap f = (xs.take j).flatMap f ++ (xs.drop j).flatMap f := by rw [← List.flatMap_append, List.take_append_drop]
  rw [e, List.length_append]
  omega
theorem last_mem {r : List Nat} (h : r ≠ []) : r.getLastD 0 ∈ r := by
  rw [List.getLastD_eq_getLast?, List.getLast?_eq_some_getLast h]
  exact List.getLast_mem h
theorem at_last {r : List Nat} (h : r ≠ []) : atI (nums r) (-1) = some (.int ((r.getLastD 0 : Nat) : Int)) := by
  have hl : 0 < r.length := List.length_pos_iff.mpr h
  have ln : (nums r).length = r.length := by unfold nums; rw [List.length_map]
  have e : ixN (nums r).length (-1) = some (r.length - 1) := by
    unfold ixN
    rw [ln, if_neg (by omega), if_pos (by omega)]
    congr 1
    omega
  unfold atI
  rw [e]
  show (nums r)[r.length - 1]? = _
  unfold nums
  rw [List.getElem?_map, List.getLastD_eq_getLast?, List.getLast?_eq_getElem?]
  cases q : r[r.length - 1]? with
  | none => rw [List.getElem?_eq_none_iff] at q; omega
  | some a => rfl
theorem paired_append {α β : Type} {R : α → β → Prop} {as2 : List α} {bs2 : List β} : ∀ {as : List α} {bs : List β}, Paired R as bs → Paired R as2 bs2 → Paired R (as ++ as2) (bs ++ bs2)
  | _, _, .nil, h2 => h2
  | _, _, .cons h r, h2 => .cons h (paired_append r h2)
section
variable {P : Program} {w : World} {K : PySem.W.Frag} {mg : Str → Option Value} {base : Heap}
theorem scLOn : FnScope ["_law_w", "_law_arrow"] ["_law_w", "_law_arrow"] (defScope sLOn) := ⟨rfl, rfl, rfl, by decide +kernel, rfl, by decide +kernel, by decide +kernel⟩
theorem ok_lon {f fO : Addr} {fd fdO : FuncData} (F : Fun K "_law_on" "_law_on" sLOn f fd) (GO : FnOk P w K mg base CX0 1 fO fdO ["_law_w", "_law_room"] spLOuts) (bO : Binds K fdO ["_law_w", "_law_room"] []) (mO : mg "_law_outs" = some (.ref fO)) (kO : PySem.W.keepIn K (.ref fO) = true) :
    FnOk P w K mg base CX0 2 f fd ["_law_w", "_law_arrow"] spLOn := by
  refine F.ok scLOn (fun vs H Q E h => ?_) (fun cdv A outer s H vs Q E hr h => ?_)
  · obtain ⟨t, n, ps, a, rfl, _⟩ := h
    rfl
  · obtain ⟨t, n, ps, a, rfl, W, hlen, ha, k⟩ := h
    obtain ⟨q, as, ht, hq, hP, hG⟩ := id W
    have hp : ps[a]? = some ps[a] := List.getElem?_eq_getElem ha
    obtain ⟨c, hc, hcp⟩ := pair_at hP hp
    refine ⟨_, pss_one (ps_ret (pe_call GO hr rfl mO kO bO .nil pass0 (pa_cons (pv 0) (pa_cons (pe_ix ix_tup (pe_ix ix_tup (pe_ix ix_tup (pv 0) pe_int (fun _ _ => rfl)) (pv 1) (fun _ _ => rfl)) pe_int (fun _ _ => rfl)) pa_nil)))), ?_⟩
    refine ⟨_, rfl, _, rfl, t, _, _, _, rfl, rfl, SqT.of ht, rfl, _, rfl, q, _, _, _, rfl, rfl, hq.sq, atI_nat hc, c, _, _, _, rfl, rfl, SqT.of hcp, rfl, t, n, ps, ps[a].2, rfl, W, hlen, fun H' l s' n' h' => k H' l s' n' ?_⟩
    rw [onOf_at hp]
    exact h'
abbrev nLMany : List Str := ["_law_w", "_law_length", "_law_found", "_law_step", "_law_room", "_law_arrow"]
abbrev nLRows : List Str := ["_law_w", "_law_length", "_law_found", "_law_step", "_law_later", "_law_row", "_law_arrow"]
end
end KW


set_option Elab.async false
set_option maxRecDepth 100000
set_option maxHeartbeats 2000000
/-! The law's own: a walk that comes round. -/
namespace KW
open PySem PySem.Spec PyProof.Rows L2
abbrev sLWalk : Stmt := topS 38
abbrev nLWalk : List Str := ["_law_bag_here", "_law_w", "_law_arrow", "_law_row", "_law_k", "_law_begins", "_law_at", "_law_one", "_law_room"]
theorem scLWalk : FnScope nLWalk ["_law_bag_here", "_law_w"] (defScope sLWalk) := ⟨rfl, rfl, rfl, by decide +kernel, rfl, by decide +kernel, by decide +kernel⟩
/-- arrows that follow one another -/
def chain (ps : List (Nat × Nat)) : List Nat → Prop
  | [] => True
  | [a] => a < ps.length
  | a :: b :: r => a < ps.length ∧ (ps.getD a (0, 0)).2 = (ps.getD b (0, 0)).1 ∧ chain ps (b :: r)
theorem idxs_mem (r : Nat) : ∀ (l : List Nat) (k a : Nat), a ∈ idxs l r k → ∃ i, a = k + i ∧ l[i]? = some r
  | [], _, _, h => absurd h (by simp [idxs])
  | p :: l, k, a, h => by
    unfold idxs at h
    have go : a ∈ idxs l r (k + 1) → ∃ i, a = k + i ∧ (p :: l)[i]? = some r := fun h => by
      obtain ⟨i, e, q⟩ := idxs_mem r l (k + 1) a h
      exact ⟨i + 1, by omega, by simpa using q⟩
    split at h
    · rename_i e
      rcases List.mem_cons.mp h with z | z
      · exact ⟨0, by omega, by rw [e]; rfl⟩
      · exact go z
    · exact go h
theorem on_mem {ps : List (Nat × Nat)} {x a : Nat} (h : a ∈ onOf ps x) : a < ps.length ∧ (ps.getD a (0, 0)).1 = (ps.getD x (0, 0)).2 := by
  obtain ⟨i, e, q⟩ := idxs_mem _ _ _ _ h
  have e' : a = i := by omega
  subst e'
  rw [List.getElem?_map] at q
  cases z : ps[a]? with
  | none =>
    rw [z] at q
    cases q
  | some p =>
    rw [z] at q
    refine ⟨(List.getElem?_eq_some_iff.mp z).1, ?_⟩
    rw [List.getD_eq_getElem?_getD, z]
    exact Option.some.inj q
theorem on_ne {n : Nat} {ps : List (Nat × Nat)} (g : Good n ps) {x : Nat} (hx : x < ps.length) : onOf ps x ≠ [] := fun z => by
  have hp : ps.getD x (0, 0) = ps[x] := by rw [List.getD_eq_getElem?_getD, List.getElem?_eq_getElem hx]; rfl
  obtain ⟨p, h1, h2⟩ := g.2.2 (ps.getD x (0, 0)).2 (by rw [hp]; exact (g.2.1 _ (List.getElem_mem hx)).2)
  exact idxs_none _ _ _ z (List.mem_map.mpr ⟨p, h1, h2⟩)
theorem chain_snoc {ps : List (Nat × Nat)} {a : Nat} (ha : a < ps.length) : ∀ {r : List Nat}, r ≠ [] → chain ps r → end_ ps r = (ps.getD a (0, 0)).1 → chain ps (r ++ [a])
  | [], h, _, _ => absurd rfl h
  | [x], _, h, e => ⟨h, e, ha⟩
  | x :: y :: r, _, h, e => ⟨h.1, h.2.1, chain_snoc (r := y :: r) ha (List.cons_ne_nil _ _) h.2.2 e⟩
theorem chain_lt {ps : List (Nat × Nat)} : ∀ {r : List Nat}, chain ps r → ∀ a ∈ r, a < ps.length
  | [], _, a, h => absurd h (by simp)
  | [x], h, a, m => by
    rw [List.mem_singleton.mp m]
    exact h
  | x :: y :: r, h, a, m => by
    rcases List.mem_cons.mp m with z | z
    · rw [z]
      exact h.1
    · exact chain_lt h.2.2 a z
/-- the rooms where the arrows of a row begin -/
def bgs (ps : List (Nat × Nat)) (r : List Nat) : List Nat := r.map fun a => (ps.getD a (0, 0)).1
/-- the rooms that are not among them -/
def fresh_ (n : Nat) (ps : List (Nat × Nat)) (r : List Nat) : Nat := ((List.range n).filter fun x => decide (x ∉ bgs ps r)).length
theorem filter_lt {α : Type} {p q : α → Bool} (h : ∀ x, q x = true → p x = true) {y : α} (hp : p y = true) (hq : q y = false) : ∀ {xs : List α}, y ∈ xs → (xs.filter q).length < (xs.filter p).length
  | [], m => absurd m (by simp)
  | x :: xs, m => by
    have le : (xs.filter q).length ≤ (xs.filter p).length := by
      have : ∀ zs : List α, (zs.filter q).length ≤ (zs.filter p).length := by
        intro zs
        induction zs with
        | nil => exact Nat.le_refl _
        | cons z zs ih =>
          rw [List.filter_cons, List.filter_cons]
          cases hz : q z with
          | true => rw [if_pos rfl, if_pos (h z hz)]; simp; exact ih
          | false =>
            rw [if_neg (by decide)]
            split
            · rw [List.length_cons]
              omega
            · exact ih
      exact this xs
    rw [List.filter_cons, List.filter_cons]
    rcases List.mem_cons.mp m with e | m
    · rw [← e, hp, hq, if_pos rfl, if_neg (by decide), List.length_cons]
      omega
    · have ih := filter_lt h hp hq (xs := xs) m
      cases hz : q x with
      | true => rw [if_pos rfl, if_pos (h x hz)]; simp; exact ih
      | false =>
        rw [if_neg (by decide)]
        split
        · rw [List.length_cons]
          omega
        · exact ih
theorem fresh_less {n : Nat} {ps : List (Nat × Nat)} {r : List Nat} {a : Nat} (h1 : (ps.getD a (0, 0)).1 < n) (h2 : (ps.getD a (0, 0)).1 ∉ bgs ps r) : fresh_ n ps (r ++ [a]) < fresh_ n ps r := by
  unfold fresh_
  refine filter_lt (y := (ps.getD a (0, 0)).1) (fun x hx => ?_) (decide_eq_true h2) (decide_eq_false fun z => z ?_) (List.mem_range.mpr h1)
  · have z := of_decide_eq_true hx
    refine decide_eq_true fun y => z ?_
    unfold bgs at y ⊢
    rw [List.map_append]
    exact List.mem_append_left _ y
  · unfold bgs
    rw [List.map_append]
    exact List.mem_append_right _ List.mem_cons_self
theorem inN {r : Nat} {l : List Nat} : inV (.int (r : Int)) (nums l) = decide (r ∈ l) := by
  induction l with
  | nil => rfl
  | cons x l ih =>
    unfold inV nums at ih ⊢
    rw [List.map_cons, List.any_cons, ih]
    show (((x : Int) == (r : Int)) || decide (r ∈ l)) = _
    by_cases e : x = r
    · rw [e]
      simp
    · have e' : r ≠ x := fun z => e z.symm
      have e2 : ¬ ((x : Int) = (r : Int)) := fun z => e (by omega)
      simp [e2, e']
theorem flatN : ∀ l : List Nat, (nums l).all flatV = true
  | [] => rfl
  | x :: l => by
    unfold nums
    rw [List.map_cons, List.all_cons]
    exact flatN l
theorem last_of {l : List Nat} (h : l ≠ []) : l.getLastD 0 ∈ l := last_mem h
theorem cut_take (l : List Nat) {k : Nat} (h : k ≤ l.length) : cutV (nums l) none (some (k : Int)) = nums (l.take k) := by
  have ln : (nums l).length = l.length := by unfold nums; rw [List.length_map]
  unfold cutV
  have e1 : HT.sIx (nums l).length 0 none = 0 := rfl
  have e2 : HT.sIx (nums l).length (nums l).length (some (k : Int)) = k := by
    unfold HT.sIx
    simp only [ln]
    split
    · omega
    · omega
  rw [e1, e2]
  unfold nums
  rw [List.drop_zero, Nat.sub_zero, List.map_take]
theorem cut_drop (l : List Nat) {k : Nat} (h : k ≤ l.length) : cutV (nums l) (some (k : Int)) none = nums (l.drop k) := by
  have ln : (nums l).length = l.length := by unfold nums; rw [List.length_map]
  unfold cutV
  have e1 : HT.sIx (nums l).length (nums l).length none = l.length := by rw [ln]; rfl
  have e2 : HT.sIx (nums l).length 0 (some (k : Int)) = k := by
    unfold HT.sIx
    simp only [ln]
    split
    · omega
    · omega
  rw [e1, e2]
  unfold nums
  rw [← List.map_drop, List.take_of_length_le (by rw [List.length_map, List.length_drop]; omega)]
theorem drop_round {ps : List (Nat × Nat)} {r : List Nat} {k : Nat} (h : (bgs ps r)[k]? = some (end_ ps r)) : r.drop k ≠ [] ∧ end_ ps (r.drop k) = bgn ps (r.drop k) := by
  unfold bgs at h
  rw [List.getElem?_map] at h
  cases q : r[k]? with
  | none =>
    rw [q] at h
    cases h
  | some a =>
    rw [q] at h
    have hk : k < r.length := (List.getElem?_eq_some_iff.mp q).1
    have ha : (ps.getD a (0, 0)).1 = end_ ps r := Option.some.inj h
    have ed : r.drop k = a :: r.drop (k + 1) := by
      rw [List.drop_eq_getElem_cons hk]
      congr 1
      exact (List.getElem?_eq_some_iff.mp q).2
    refine ⟨by rw [ed]; exact List.cons_ne_nil _ _, ?_⟩
    have e1 : end_ ps (r.drop k) = end_ ps r := by
      unfold end_
      rw [List.getLastD_eq_getLast?, List.getLastD_eq_getLast?, List.getLast?_drop, if_neg (by omega)]
    rw [e1, ← ha, ed]
    rfl
def spLWalk : Sp := fun vs H Q _ => ∃ (b l : Addr) (ns : List Int) (t : Addr) (n : Nat) (ps : List (Nat × Nat)), vs = [.ref b, .ref t] ∧ BagAt b l ns H ∧ WebT H t n ps ∧ n ≤ 100 ∧ ps.length ≤ 400 ∧
  ∀ (H' : Hp) (u a1 a2 : Addr) (fr rg : List Nat), Grow b H H' → BagAt b l ns H' → H' u = some (.tup [.ref a1, .ref a2]) → H' a1 = some (.lst (nums fr)) → H' a2 = some (.lst (nums rg)) → rg ≠ [] → chain ps (fr ++ rg) → end_ ps rg = bgn ps rg → fr.length + rg.length ≤ n + 5 → Q (.ref u) H'
theorem bag_same {b l : Addr} {ms : List Int} {H H' : Hp} (s : Same H H') (B : BagAt b l ms H) : BagAt b l ms H' := by
  obtain ⟨⟨i, r, sd, c, h, hi⟩, hl, nbl⟩ := B
  exact ⟨⟨i, r, sd, c, s _ _ h, hi⟩, s _ _ hl, nbl⟩
section
variable {P : Program} {w : World} {K : PySem.W.Frag} {mg : Str → Option Value} {base : Heap}
theorem ok_lwalk {f fP fO fN : Addr} {fd fdP fdO fdN : FuncData} (F : Fun K "_law_walk" "_law_walk" sLWalk f fd) (GP : FnOk P w K mg base CX0 1 fP fdP ["_law_bag_here", "_law_many"] spPull) (bP : Binds K fdP ["_law_bag_here", "_law_many"] []) (mP : mg "_law_pull" = some (.ref fP)) (kP : PySem.W.keepIn K (.ref fP) = true)
    (GO : FnOk P w K mg base CX0 2 fO fdO ["_law_bag_here", "_law_some"] (spOf K)) (bO : Binds K fdO ["_law_bag_here", "_law_some"] []) (mO : mg "_law_of" = some (.ref fO)) (kO : PySem.W.keepIn K (.ref fO) = true)
    (GN : FnOk P w K mg base CX0 2 fN fdN ["_law_w", "_law_arrow"] spLOn) (bN : Binds K fdN ["_law_w", "_law_arrow"] []) (mN : mg "_law_on" = some (.ref fN)) (kN : PySem.W.keepIn K (.ref fN) = true)
    (mRange : mg "range" = none) (mLen : mg "len" = none) (mEnum : mg "enumerate" = none) : FnOk P w K mg base CX0 3 f fd ["_law_bag_here", "_law_w"] spLWalk := by
  refine F.ok scLWalk (fun vs H Q E h => ?_) (fun cdv A outer s H vs Q E hr h => ?_)
  · obtain ⟨b, l, ns, t, n, ps, rfl, _⟩ := h
    rfl
  · obtain ⟨b, l, ns, t, n, ps, rfl, B, W, hn, hlen, kk⟩ := h
    have hr1 : Room 1 _ := hr.mono (by decide)
    refine ⟨_, pss_cons (ps_set (i := 2) scLWalk.nd rfl (Or.inl rfl) (pe_call GP hr1 rfl mP kP bP .nil pass0 (pa_cons (pv 0) (pa_cons (pe_callB call_len_seq (by rfl) mLen PySem.boot_len (pa_cons (pe_ix ix_tup (pv 1) pe_int (fun _ _ => rfl)) pa_nil)) pa_nil))))
      (pss_cons (ps_set (i := 3) scLWalk.nd rfl (Or.inr rfl) (pe_lst (pa_cons (pv 2) pa_nil)))
      (C8.pss_cut (ps_for PassesOwn.never rfl (pi_range1 (by rfl) mRange (pa_cons (pe_call GP hr1 rfl mP kP bP .nil pass0 (pa_cons (pv 0) (pa_cons pe_int pa_nil))) pa_nil)) (pg_name (i := 4) scLWalk.nd rfl (Or.inl rfl))
          (pss_one (ps_expr (pe_bm PySem.F.plainAttrs_list PySem.F.slot_list_append PySem.F.type_list_append mt_append (pv 3) (pa_cons (pe_call GO hr rfl mO kO bO .nil pass0 (pa_cons (pv 0) (pa_cons (pe_call GN hr rfl mN kN bN .nil pass0 (pa_cons (pv 1) (pa_cons (pe_ix ix_list (pv 3) (pe_un un_neg pe_int) (fun _ _ => rfl)) pa_nil))) pa_nil))) pa_nil)))))
      (C8.pss_cut (ps_setLc (i := 5) (own := [("_law_one", 7)]) (g := gName 7) (tt := tYes) rfl scLWalk.nd rfl rfl (sw_true rfl rfl rfl (by decide +kernel)) (pi_list (pv 3)) (blkOk_by (own := [("_law_one", 7)]) (N := nLWalk) (sc := defScope sLWalk) (by decide +kernel)) (fun _ _ _ _ _ => pg_name (i := 7) scLWalk.nd rfl (Or.inl rfl)) (fun _ _ _ _ _ => pts_nil)
          (fun _ _ _ _ _ => pe_ix (ix_tupK (K := K) rfl) (pe_ix (ix_tupK (K := K) rfl) (pe_ix (ix_tupK (K := K) rfl) (pv 1) pe_int (fun _ _ => rfl)) (pv 7) (fun _ _ => rfl)) pe_int (fun _ _ => rfl)))
      (C8.pss_cut (ps_while PassesOwn.never (pt_cmpR op_notIn_seq (pe_ix ix_tup (pe_ix ix_tup (pe_ix ix_tup (pv 1) pe_int (fun _ _ => rfl)) (pe_ix ix_list (pv 3) (pe_un un_neg pe_int) (fun _ _ => rfl)) (fun _ _ => rfl)) pe_int (fun _ _ => rfl)) (pv 5) (by rfl))
          (pss_cons (ps_expr (pe_bm PySem.F.plainAttrs_list PySem.F.slot_list_append PySem.F.type_list_append mt_append (pv 3) (pa_cons (pe_call GO hr rfl mO kO bO .nil pass0 (pa_cons (pv 0) (pa_cons (pe_call GN hr rfl mN kN bN .nil pass0 (pa_cons (pv 1) (pa_cons (pe_ix ix_list (pv 3) (pe_un un_neg pe_int) (fun _ _ => rfl)) pa_nil))) pa_nil))) pa_nil)))
          (pss_one (ps_expr (pe_bm PySem.F.plainAttrs_list PySem.F.slot_list_append PySem.F.type_list_append mt_append (pv 5) (pa_cons (pe_ix ix_tup (pe_ix ix_tup (pe_ix ix_tup (pv 1) pe_int (fun _ _ => rfl)) (pe_ix ix_list (pv 3) (pe_un un_neg pe_int) (fun _ _ => rfl)) (fun _ _ => rfl)) pe_int (fun _ _ => rfl)) pa_nil))))))
      (pss_cons (ps_set (i := 6) scLWalk.nd rfl (Or.inl rfl) (pe_ix ix_list (pe_lc (own := [("_law_k", 4), ("_law_room", 8)]) (g := gTup K 2 (gCons (gName 4) (gCons (gName 8) gNil))) rfl scLWalk.nd (pi_enum (by rfl) mEnum (pa_cons (pv 5) pa_nil)) (blkOk_by (own := [("_law_k", 4), ("_law_room", 8)]) (N := nLWalk) (sc := defScope sLWalk) (by decide +kernel)) (fun _ _ _ _ _ => pg_tup rfl (pgs_cons (pg_name (i := 4) scLWalk.nd rfl (Or.inl rfl)) (pgs_cons (pg_name (i := 8) scLWalk.nd rfl (Or.inl rfl)) pgs_nil)))
          (fun _ _ _ _ _ => pts_one (pt_cmpR op_eq (pv 8) (pe_ix (ix_tupK (K := K) rfl) (pe_ix (ix_tupK (K := K) rfl) (pe_ix (ix_tupK (K := K) rfl) (pv 1) pe_int (fun _ _ => rfl)) (pe_ix (ix_listK (K := K) rfl) (pv 3) (pe_un un_neg pe_int) (fun _ _ => rfl)) (fun _ _ => rfl)) pe_int (fun _ _ => rfl)) (nomark _))) (fun _ _ _ _ _ => pv 4)) (pe_un un_neg pe_int) (fun _ _ => rfl)))
      (pss_one (ps_ret (pe_tup (pa_cons (pe_slice sl_list (pv 3) po_none (po_some (pv 6))) (pa_cons (pe_slice sl_list (pv 3) (po_some (pv 6)) po_none) pa_nil)))))))))), ?_⟩
    obtain ⟨q, as, ht, hq, hP, hG⟩ := id W
    have hal : as.length = ps.length := Paired.length hP
    have hps : 1 ≤ ps.length := by
      obtain ⟨p, hp', _⟩ := hG.2.2 0 hG.1
      exact List.length_pos_of_mem hp'
    obtain ⟨xb, hxb⟩ := B.list
    have kp : ∀ {H' : Hp}, Grow b H H' → Kp H H' := fun g => Kp.grow hxb g
    have gd : ∀ a, a < ps.length → ps.getD a (0, 0) = ps[a]! := fun a ha => by
      rw [List.getD_eq_getElem?_getD, List.getElem?_eq_getElem ha, getElem!_pos ps a ha]
      rfl
    -- w[1][a] of an arrow
    have pick : ∀ {H' : Hp} (a : Nat), Grow b H H' → a < ps.length → ∃ e, as[a]? = some (.ref e) ∧ H' e = some (.tup [.int (ps.getD a (0, 0)).1, .int (ps.getD a (0, 0)).2]) := fun {H'} a g ha => by
      have hp' : ps[a]? = some ps[a] := List.getElem?_eq_getElem ha
      obtain ⟨e, h1, h2⟩ := pair_at hP hp'
      refine ⟨e, h1, ?_⟩
      rw [List.getD_eq_getElem?_getD, hp']
      exact (kp g).t h2
    refine ⟨_, rfl, _, rfl, t, _, _, _, rfl, rfl, SqT.of ht, rfl, q, _, rfl, .inr hq.sq, b, l, ns, _, rfl, B, by omega, by omega, fun H1 r r0 r1 O1 B1 => ?_⟩
    obtain ⟨a0, rfl⟩ := Int.eq_ofNat_of_zero_le r0
    have ha0 : a0 < ps.length := by omega
    refine ⟨_, rfl, by show 1 ≤ sizeLine; decide, fun R hR => ?_⟩
    have nbR : b ≠ R := B1.nb hR
    have nlR : l ≠ R := B1.nl hR
    have hR0 : H R = none := by
      cases z : H R with
      | none => rfl
      | some o =>
        have y := O1.grow R o nbR.symm z
        rw [y] at hR
        cases hR
    have G2 : Grow b H (upd H1 R (.lst [.int (a0 : Int)])) := O1.grow.new hR0
    have B2 : BagAt b l ns (upd H1 R (.lst [.int (a0 : Int)])) := B1.new hR
    have hR2 : upd H1 R (.lst [.int (a0 : Int)]) R = some (.lst (nums [a0])) := upd_same
    generalize upd H1 R (.lst [.int (a0 : Int)]) = H2 at G2 B2 hR2
    -- some arrows
    refine ⟨fun σ H' => ∃ (v2 v4 : Option V) (r : List Nat), σ = [some (.ref b), some (.ref t), v2, some (.ref R), v4, none, none, none, none] ∧ H' R = some (.lst (nums r)) ∧ r ≠ [] ∧ chain ps r ∧ r.length ≤ 5 ∧ BagAt b l ns H' ∧ Grow b H H', ?_, ?_⟩
    · refine ⟨_, rfl, b, l, ns, _, rfl, B2, by decide, by decide, fun H3 m m0 m1 O3 B3 => ?_⟩
      obtain ⟨m, rfl⟩ := Int.eq_ofNat_of_zero_le m0
      refine ⟨_, rfl, by omega, by omega, for_range (lo := 0) (n := m) (fun i σ H' => ∃ (v2 v4 : Option V) (r : List Nat), σ = [some (.ref b), some (.ref t), v2, some (.ref R), v4, none, none, none, none] ∧ H' R = some (.lst (nums r)) ∧ r ≠ [] ∧ chain ps r ∧ r.length = i + 1 ∧ BagAt b l ns H' ∧ Grow b H H')
        ⟨_, _, [a0], rfl, by rw [O3 R nbR.symm]; exact hR2, List.cons_ne_nil _ _, ha0, rfl, B3, G2.trans O3.grow⟩ ?_ ?_⟩
      · rintro i σ H4 hi ⟨v2, v4, r, rfl, hR4, hrn, hch, hrl, B4, G4⟩
        have hlast := chain_lt hch _ (last_mem hrn)
        refine ⟨_, rfl, .inl ⟨rfl, _, SqL.of hR4⟩, _, rfl, _, rfl, _, rfl, _, rfl, R, _, _, _, rfl, rfl, SqL.of hR4, at_last hrn, t, n, ps, r.getLastD 0, rfl, W.kp (kp G4), by omega, hlast, fun H5 L s5 nL hL => ?_⟩
        have B5 := bag_same s5 B4
        have nLb : L ≠ b := fun z => by
          obtain ⟨ys, hy⟩ := B4.list
          rw [z, hy] at nL
          cases nL
        have ol : 1 ≤ (nums (onOf ps (r.getLastD 0))).length ∧ (nums (onOf ps (r.getLastD 0))).length ≤ 1000 := by
          unfold nums
          rw [List.length_map]
          have z1 := List.length_pos_iff.mpr (on_ne hG hlast)
          have z2 := idxs_len (ps.getD (r.getLastD 0) (0, 0)).2 (ps.map (·.1)) 0
          rw [List.length_map] at z2
          unfold onOf at z1 ⊢
          omega
        refine ⟨b, l, L, ns, _, rfl, B5, SqL.of hL, nLb, fun o e => ⟨_, (Option.some.inj (e.symm.trans hL))⟩, ol.1, ol.2, fun H6 v O6 B6 hv => ?_⟩
        obtain ⟨a, ha, rfl⟩ := List.mem_map.mp hv
        obtain ⟨hal', hab⟩ := on_mem ha
        have hR6 : H6 R = some (.lst (nums r)) := by rw [O6 R nbR.symm]; exact s5 _ _ hR4
        have ln : (nums r).length = r.length := by unfold nums; rw [List.length_map]
        refine ⟨R, _, _, rfl, rfl, hR6, by rw [sizeLine_eq, ln]; omega, _, _, r ++ [a], rfl, by rw [upd_same, nums_snoc]; rfl, by simp, chain_snoc hal' hrn hch hab.symm, by rw [List.length_append, hrl]; rfl, B6.other nbR nlR, ((G4.trans (fun c o _ h => s5 c o h)).trans O6.grow).new hR0⟩
      · rintro σ H4 ⟨v2, v4, r, rfl, hR4, hrn, hch, hrl, B4, G4⟩
        exact ⟨_, _, r, rfl, hR4, hrn, hch, by omega, B4, G4⟩
    rintro σ H3 ⟨v2, v4, r, rfl, hR3, hrn, hch, hrl, B3, G3⟩
    -- where they begin
    refine ⟨fun σ H' => ∃ (v2 v4 : Option V) (Bg : Addr), σ = [some (.ref b), some (.ref t), v2, some (.ref R), v4, some (.ref Bg), none, none, none] ∧ H' R = some (.lst (nums r)) ∧ H' Bg = some (.lst (nums (bgs ps r))) ∧ H Bg = none ∧ b ≠ Bg ∧ l ≠ Bg ∧ R ≠ Bg ∧ BagAt b l ns H' ∧ Grow b H H', ?_, ?_⟩
    · have ln : (nums r).length = r.length := by unfold nums; rw [List.length_map]
      refine ⟨_, rfl, R, rfl, ⟨_, SqL.of hR3⟩, fun D hD => ?_⟩
      have nDb := B3.nb hD
      have hD0 : H D = none := by
        cases z : H D with
        | none => rfl
        | some o =>
          have y := G3 D o nDb.symm z
          rw [y] at hD
          cases hD
      refine lc_list (K := K) (a := R) (xs := nums r) (fun j H' => H' D = some (.lst (nums (bgs ps (r.take j)))) ∧ Same H3 H')
        ⟨upd_same, same_new (Same.refl H3) hD⟩ (fun j H' _ ⟨_, s'⟩ => SqL.of (s' _ _ hR3)) ?_ ?_
      · rintro j y H4 hy ⟨hD4, s4⟩
        obtain ⟨a, ha, rfl⟩ := nums_get hy
        have hla := chain_lt hch a (List.mem_of_getElem? ha)
        have G4 : Grow b H H4 := G3.trans (fun c o _ h => s4 c o h)
        obtain ⟨e, he1, he2⟩ := pick a G4 hla
        refine ⟨rfl, _, rfl, t, _, _, _, rfl, rfl, SqT.of ((kp G4).t ht), rfl, _, rfl, q, _, _, _, rfl, rfl, ((kp G4).f hq).sq, atI_nat he1, e, _, _, _, rfl, rfl, SqT.of he2, rfl, _, hD4, ?_, ?_, same_put s4 hD⟩
        · rw [sizeLine_eq]
          unfold nums bgs
          rw [List.length_map, List.length_map]
          have := List.length_take_le' j r
          omega
        · rw [upd_same, take_snoc ha]
          unfold bgs
          rw [List.map_append]
          exact congrArg (fun l => some (HO.lst l)) (nums_snoc _ _).symm
      · rintro H4 ⟨hD4, s4⟩
        rw [ln, List.take_length] at hD4
        exact ⟨_, _, D, rfl, s4 _ _ hR3, hD4, hD0, nDb, B3.nl hD, ne_of_none hR3 hD, bag_same s4 B3, G3.trans (fun c o _ h => s4 c o h)⟩
    rintro σ H4 ⟨v2, v4, Bg, rfl, hR4, hB4, hBg0, nbB, nlB, nRB, B4, G4⟩
    -- until it comes round
    refine ⟨fun σ H' => ∃ (v2 v4 : Option V) (r : List Nat), σ = [some (.ref b), some (.ref t), v2, some (.ref R), v4, some (.ref Bg), none, none, none] ∧ H' R = some (.lst (nums r)) ∧ H' Bg = some (.lst (nums (bgs ps r))) ∧ r ≠ [] ∧ chain ps r ∧ end_ ps r ∈ bgs ps r ∧ r.length ≤ n + 5 ∧ BagAt b l ns H' ∧ Grow b H H', ?_, ?_⟩
    · refine ⟨fun m σ H' => ∃ (v2 v4 : Option V) (r : List Nat), σ = [some (.ref b), some (.ref t), v2, some (.ref R), v4, some (.ref Bg), none, none, none] ∧ H' R = some (.lst (nums r)) ∧ H' Bg = some (.lst (nums (bgs ps r))) ∧ r ≠ [] ∧ chain ps r ∧ fresh_ n ps r = m ∧ r.length + m ≤ n + 5 ∧ BagAt b l ns H' ∧ Grow b H H',
        ⟨_, v2, v4, r, rfl, hR4, hB4, hrn, hch, rfl, ?_, B4, G4⟩, ?_⟩
      · have z := List.length_filter_le (fun x : Nat => decide (x ∉ bgs ps r)) (List.range n)
        rw [List.length_range] at z
        unfold fresh_
        omega
      rintro m σ H5 ⟨v2, v4, r, rfl, hR5, hB5, hrn, hch, hfm, hrm, B5, G5⟩
      have hlast := chain_lt hch _ (last_mem hrn)
      obtain ⟨e, he1, he2⟩ := pick _ G5 hlast
      refine ⟨_, rfl, t, _, _, _, rfl, rfl, SqT.of ((kp G5).t ht), rfl, _, rfl, _, rfl, R, _, _, _, rfl, rfl, SqL.of hR5, at_last hrn, q, _, _, _, rfl, rfl, ((kp G5).f hq).sq, atI_nat he1, e, _, _, _, rfl, rfl, SqT.of he2, rfl, _, rfl, Bg, _, rfl, .inl (SqL.of hB5), rfl, flatN _, ?_⟩
      have ev : (if true then !inV (.int (((ps.getD (r.getLastD 0) (0, 0)).2 : Nat) : Int)) (nums (bgs ps r)) else inV (.int (((ps.getD (r.getLastD 0) (0, 0)).2 : Nat) : Int)) (nums (bgs ps r))) = decide (end_ ps r ∉ bgs ps r) := by
        rw [if_pos rfl, inN, decide_not]
        rfl
      rw [ev]
      by_cases hin : end_ ps r ∈ bgs ps r
      · exact ⟨false, congrArg V.bl (decide_eq_false (fun z => z hin)), iteF ⟨_, _, r, rfl, hR5, hB5, hrn, hch, hin, by omega, B5, G5⟩⟩
      refine ⟨true, congrArg V.bl (decide_eq_true hin), iteT ⟨fun σ' H' => ∃ m', m' < m ∧ ∃ (v2 v4 : Option V) (r : List Nat), σ' = [some (.ref b), some (.ref t), v2, some (.ref R), v4, some (.ref Bg), none, none, none] ∧ H' R = some (.lst (nums r)) ∧ H' Bg = some (.lst (nums (bgs ps r))) ∧ r ≠ [] ∧ chain ps r ∧ fresh_ n ps r = m' ∧ r.length + m' ≤ n + 5 ∧ BagAt b l ns H' ∧ Grow b H H', fun _ _ z => z, ?_⟩⟩
      refine ⟨_, rfl, .inl ⟨rfl, _, SqL.of hR5⟩, _, rfl, _, rfl, _, rfl, _, rfl, R, _, _, _, rfl, rfl, SqL.of hR5, at_last hrn, t, n, ps, r.getLastD 0, rfl, W.kp (kp G5), by omega, hlast, fun H6 L s6 nL hL => ?_⟩
      have B6 := bag_same s6 B5
      have nLb : L ≠ b := fun z => by
        obtain ⟨ys, hy⟩ := B5.list
        rw [z, hy] at nL
        cases nL
      have ol : 1 ≤ (nums (onOf ps (r.getLastD 0))).length ∧ (nums (onOf ps (r.getLastD 0))).length ≤ 1000 := by
        unfold nums
        rw [List.length_map]
        have z1 := List.length_pos_iff.mpr (on_ne hG hlast)
        have z2 := idxs_len (ps.getD (r.getLastD 0) (0, 0)).2 (ps.map (·.1)) 0
        rw [List.length_map] at z2
        unfold onOf at z1 ⊢
        omega
      refine ⟨b, l, L, ns, _, rfl, B6, SqL.of hL, nLb, fun o e => ⟨_, (Option.some.inj (e.symm.trans hL))⟩, ol.1, ol.2, fun H7 v O7 B7 hv => ?_⟩
      obtain ⟨a, ha, rfl⟩ := List.mem_map.mp hv
      obtain ⟨hal', hab⟩ := on_mem ha
      have hR7 : H7 R = some (.lst (nums r)) := by rw [O7 R nbR.symm]; exact s6 _ _ hR5
      have hB7 : H7 Bg = some (.lst (nums (bgs ps r))) := by rw [O7 Bg nbB.symm]; exact s6 _ _ hB5
      have ln : (nums r).length = r.length := by unfold nums; rw [List.length_map]
      have lb : (nums (bgs ps r)).length = r.length := by unfold nums bgs; rw [List.length_map, List.length_map]
      refine ⟨R, _, _, rfl, rfl, hR7, by rw [sizeLine_eq, ln]; omega, ?_⟩
      have G8 : Grow b H (upd H7 R (.lst (nums r ++ [nV a]))) := ((G5.trans (fun c o _ h => s6 c o h)).trans O7.grow).new hR0
      have B8 : BagAt b l ns (upd H7 R (.lst (nums r ++ [nV a]))) := B7.other nbR nlR
      have hR8 : upd H7 R (.lst (nums r ++ [nV a])) R = some (.lst (nums (r ++ [a]))) := by rw [upd_same, nums_snoc]; rfl
      have hB8 : upd H7 R (.lst (nums r ++ [nV a])) Bg = some (.lst (nums (bgs ps r))) := by rw [upd_ne nRB.symm]; exact hB7
      generalize upd H7 R (.lst (nums r ++ [nV a])) = H8 at G8 B8 hR8 hB8
      have hrn8 : r ++ [a] ≠ [] := by simp
      have el : (r ++ [a]).getLastD 0 = a := by rw [List.getLastD_eq_getLast?, List.getLast?_append]; rfl
      obtain ⟨e8, he3, he4⟩ := pick a G8 hal'
      refine ⟨_, rfl, .inl ⟨rfl, _, SqL.of hB8⟩, _, rfl, t, _, _, _, rfl, rfl, SqT.of ((kp G8).t ht), rfl, _, rfl, _, rfl, R, _, _, _, rfl, rfl, SqL.of hR8, at_last hrn8, q, _, _, _, rfl, rfl, ((kp G8).f hq).sq, by rw [el]; exact atI_nat he3, e8, _, _, _, rfl, rfl, SqT.of he4, rfl, Bg, _, _, rfl, rfl, hB8, by rw [sizeLine_eq, lb]; omega, ?_⟩
      have hless : fresh_ n ps (r ++ [a]) < fresh_ n ps r := fresh_less (by
          rw [hab]
          have hp' : ps.getD (r.getLastD 0) (0, 0) = ps[r.getLastD 0] := by rw [List.getD_eq_getElem?_getD, List.getElem?_eq_getElem hlast]; rfl
          rw [hp']
          exact (hG.2.1 _ (List.getElem_mem hlast)).2) (by rw [hab]; exact hin)
      refine ⟨_, by rw [← hfm]; exact hless, _, _, r ++ [a], rfl, by rw [upd_ne nRB]; exact hR8, ?_, hrn8, chain_snoc hal' hrn hch hab.symm, rfl, by rw [List.length_append]; simp only [List.length_cons, List.length_nil]; omega, B8.other nbB nlB, G8.new hBg0⟩
      rw [upd_same]
      unfold bgs
      rw [List.map_append]
      exact congrArg (fun l => some (HO.lst l)) (nums_snoc _ _).symm
    clear hR4 hB4 hrn hch hrl B4 G4 hR3 B3 G3
    rintro σ H5 ⟨v2, v4, r, rfl, hR5, hB5, hrn, hch, hin, hrl, B5, G5⟩
    have hlast := chain_lt hch _ (last_mem hrn)
    have lb : (nums (bgs ps r)).length = (bgs ps r).length := by unfold nums; rw [List.length_map]
    have lr : (bgs ps r).length = r.length := by unfold bgs; rw [List.length_map]
    -- the last place of that room
    refine ⟨_, rfl, Bg, _, rfl, SqL.of hB5, fun D hD => ?_⟩
    refine lc_it (walk_enum (K := K) (a := Bg) (xs := nums (bgs ps r))) (fun i H' => H' D = some (.lst (nums (idxs ((bgs ps r).take i) (end_ ps r) 0))) ∧ Same H5 H')
      ⟨upd_same, same_new (Same.refl H5) hD⟩ (fun i H' _ ⟨_, s'⟩ => SqL.of (s' _ _ hB5)) ?_ ?_
    · rintro i x H6 H7 hi ⟨hD6, s6⟩ ⟨Tt, x1, x2, rfl, hT, rfl, e1, e2⟩
      have e1 : V.int (i : Nat) = x1 := Option.some.inj e1
      subst e1
      obtain ⟨rm, hrm, rfl⟩ := nums_get e2
      have s7 : Same H5 (upd H6 Tt (.tup [.int (i : Nat), .int (rm : Int)])) := same_new s6 hT
      have hD7 : upd H6 Tt (.tup [.int (i : Nat), .int (rm : Int)]) D = some (.lst (nums (idxs ((bgs ps r).take i) (end_ ps r) 0))) := by rw [upd_ne (ne_of_none hD6 hT)]; exact hD6
      have G7 : Grow b H (upd H6 Tt (.tup [.int (i : Nat), .int (rm : Int)])) := G5.trans (fun c o _ h => s7 c o h)
      obtain ⟨e, he1, he2⟩ := pick _ G7 hlast
      refine ⟨Tt, _, rfl, SqT.of upd_same, rfl, _, _, rfl, _, _, rfl, rfl, rfl, _, rfl, _, rfl, t, _, _, _, rfl, rfl, SqT.of ((kp G7).t ht), rfl, _, rfl, _, rfl, R, _, _, _, rfl, rfl, SqL.of (s7 _ _ hR5), at_last hrn, q, _, _, _, rfl, rfl, ((kp G7).f hq).sq, atI_nat he1, e, _, _, _, rfl, rfl, SqT.of he2, rfl, rfl, ?_⟩
      have ti : ((bgs ps r).take i).length = i := by
        rw [List.length_take]
        have := (List.getElem?_eq_some_iff.mp hrm).1
        omega
      by_cases he : rm = end_ ps r
      · refine ⟨true, congrArg V.bl (decide_eq_true (by rw [he]; rfl)), iteT ⟨_, rfl, _, hD7, ?_, ?_, same_put s7 hD⟩⟩
        · rw [sizeLine_eq]
          unfold nums
          rw [List.length_map]
          have z := idxs_len (end_ ps r) ((bgs ps r).take i) 0
          rw [ti] at z
          have := (List.getElem?_eq_some_iff.mp hrm).1
          omega
        · rw [upd_same, take_snoc hrm, idxs_snoc, if_pos he, ti, Nat.zero_add, nums_snoc]
      · refine ⟨false, congrArg V.bl (decide_eq_false (fun z => he (by injection z with z; exact Int.ofNat.inj z))), iteF ⟨?_, s7⟩⟩
        rw [take_snoc hrm, idxs_snoc, if_neg he, List.append_nil]
        exact hD7
    · rintro H6 ⟨hD6, s6⟩
      rw [lb, List.take_length] at hD6
      have ine : idxs (bgs ps r) (end_ ps r) 0 ≠ [] := fun z => idxs_none _ _ _ z hin
      obtain ⟨k, ek, hk⟩ := idxs_mem _ _ _ _ (last_mem ine)
      rw [Nat.zero_add] at ek
      have hkl : k ≤ r.length := by
        have := (List.getElem?_eq_some_iff.mp hk).1
        omega
      refine ⟨_, rfl, D, _, _, _, rfl, rfl, SqL.of hD6, at_last ine, ?_⟩
      rw [ek]
      refine ⟨_, rfl, _, rfl, _, rfl, R, _, rfl, SqL.of (s6 _ _ hR5), fun p1 hp1 => ?_⟩
      have s7 : Same H6 (upd H6 p1 (.lst (cutV (nums r) none (some (k : Int))))) := same_new (Same.refl H6) hp1
      refine ⟨_, rfl, _, rfl, _, rfl, R, _, rfl, SqL.of (s7 _ _ (s6 _ _ hR5)), fun p2 hp2 => ⟨by show 2 ≤ sizeLine; decide, fun u hu => ?_⟩⟩
      have s8 := s7.trans (same_new (o := .lst (cutV (nums r) (some (k : Int)) none)) (Same.refl _) hp2)
      have s9 := s8.trans (same_new (o := .tup [.ref p1, .ref p2]) (Same.refl _) hu)
      obtain ⟨d1, d2⟩ := drop_round hk
      have sAll : Same H5 _ := s6.trans s9
      refine kk _ u p1 p2 (r.take k) (r.drop k) (G5.trans (fun c o _ h => sAll c o h)) (bag_same sAll B5) upd_same ?_ ?_ d1 (by rw [List.take_append_drop]; exact hch) d2 ?_
      · rw [upd_ne (ne_of_none (by rw [upd_ne (ne_of_none upd_same hp2), upd_same]) hu), upd_ne (ne_of_none upd_same hp2), upd_same, cut_take r hkl]
      · rw [upd_ne (ne_of_none upd_same hu), upd_same, cut_drop r hkl]
      · rw [List.length_take, List.length_drop]
        omega
end
end KW


set_option Elab.async false
set_option maxRecDepth 100000
set_option maxHeartbeats 2000000
/-! The program's walks: the shortest ring, a ring turned, the least form. -/
namespace KW
open PySem PySem.Spec PyProof.Rows L2
abbrev sShortest : Stmt := topS 13
abbrev sTurned : Stmt := topS 14
abbrev sLeastWalk : Stmt := topS 15
theorem sqT_kp {K : PySem.W.Frag} {H H' : Hp} (k : Kp H H') {a : Addr} {xs : List V} (h : SqT K H a xs) : SqT K H' a xs := by
  rcases h with (h | ⟨o, h⟩) | h
  · exact .inl (.inl (k.t h))
  · exact .inl (.inr ⟨o, k _ _ trivial h⟩)
  · exact .inr h
theorem nums_len (l : List Nat) : (nums l).length = l.length := by unfold nums; rw [List.length_map]
theorem nD_eqv (a b : Nat) : PyData.eqv (nD a) (nD b) = decide (a = b) := by
  have e : PyData.eqv (nD a) (nD b) = decide ((a : Int) = (b : Int)) := rfl
  rw [e]
  by_cases h : a = b
  · rw [h]
    simp
  · have h' : ¬ ((a : Int) = (b : Int)) := by omega
    simp [h, h']
theorem nDs_eqv : ∀ l m : List Nat, PyData.eqvAll (l.map nD) (m.map nD) = decide (l = m)
  | [], [] => by simp [PyData.eqvAll]
  | [], q :: qs => by simp [PyData.eqvAll]
  | p :: ps, [] => by simp [PyData.eqvAll]
  | p :: ps, q :: qs => by
    simp only [List.map_cons, PyData.eqvAll, nDs_eqv ps qs, nD_eqv]
    by_cases h1 : p = q
    · simp [h1]
    · simp [h1]
theorem rowD_eqv (l m : List Nat) : PyData.eqv (rowD l) (rowD m) = decide (l = m) := by
  unfold rowD
  simp only [PyData.eqv, nDs_eqv]
theorem row_shaped (l : List Nat) : SeqAt.shaped (rowD l) = true := by
  have h := nums_depth l
  exact shaped_of (by unfold rowD; simp only [PyData.canLay0]; exact nums_lay l) (by unfold rowD; simp only [PyData.depth]; omega)
theorem dp_row {K : PySem.W.Frag} {H : Hp} {a : Addr} {l : List Nat} (h : SqT K H a (nums l)) : Dp K H (.ref a) (rowD l) := .tup h (dp_nums l)
theorem cutN (l : List Nat) (lo hi : Option Int) : cutV (nums l) lo hi = nums ((l.drop (HT.sIx l.length 0 lo)).take (HT.sIx l.length l.length hi - HT.sIx l.length 0 lo)) := by
  unfold cutV
  rw [nums_len]
  unfold nums
  rw [← List.map_drop, ← List.map_take]
theorem sIx_nat {n k d : Nat} (h : k ≤ n) : HT.sIx n d (some (k : Int)) = k := by
  unfold HT.sIx
  simp only
  split
  · omega
  · omega
theorem cut_to (l : List Nat) {k : Nat} (h : k ≤ l.length) : cutV (nums l) none (some (k : Int)) = nums (l.take k) := by
  rw [cutN, sIx_nat h]
  show nums (List.take (k - 0) (List.drop 0 l)) = _
  rw [List.drop_zero, Nat.sub_zero]
theorem cut_from (l : List Nat) {k : Nat} (h : k ≤ l.length) : cutV (nums l) (some (k : Int)) none = nums (l.drop k) := by
  rw [cutN, sIx_nat h]
  show nums (List.take (l.length - k) (List.drop k l)) = _
  rw [List.take_of_length_le (by rw [List.length_drop]; omega)]
theorem nums_rep (k : Nat) (l : List Nat) : (List.replicate k (nums l)).flatten = nums ((List.replicate k l).flatten) := by
  induction k with
  | zero => rfl
  | succ k ih =>
    rw [List.replicate_succ, List.replicate_succ, List.flatten_cons, List.flatten_cons, ih]
    unfold nums
    rw [List.map_append]
theorem numsAt {l : List Nat} {i : Nat} (h : i < l.length) : (nums l)[i]? = some (.int ((l.getD i 0 : Nat) : Int)) := by
  unfold nums
  rw [List.getElem?_map, List.getD_eq_getElem?_getD, List.getElem?_eq_getElem h]
  rfl
theorem nums_ne {l : List Nat} (h : 0 < l.length) : nums l ≠ [] := fun z => by
  have := congrArg List.length z
  rw [nums_len] at this
  simp at this
  rw [this] at h
  exact absurd h (Nat.lt_irrefl _)
theorem nums_get' {l : List Nat} {j : Nat} {y : V} (h : (nums l)[j]? = some y) : ∃ a, l[j]? = some a ∧ y = .int (a : Int) := by
  unfold nums at h
  rw [List.getElem?_map] at h
  cases q : l[j]? with
  | none =>
    rw [q] at h
    cases h
  | some a =>
    rw [q] at h
    exact ⟨a, rfl, (Option.some.inj h).symm⟩
def spShortest (K : PySem.W.Frag) : Sp := fun vs H Q _ => ∃ (a : Addr) (rg : List Nat), vs = [.ref a] ∧ SqT K H a (nums rg) ∧ rg ≠ [] ∧ rg.length ≤ 1000 ∧
  ∀ (H' : Hp) (p : Addr) (g : Nat), Same H H' → SqT K H' p (nums (rg.take g)) → 0 < g → g ≤ rg.length → perOk rg g → (∀ d, 0 < d → d < g → ¬ perOk rg d) → Q (.ref p) H'
def spTurned (K : PySem.W.Frag) : Sp := fun vs H Q _ => ∃ (a : Addr) (rg : List Nat) (m : Int), vs = [.ref a, .int m] ∧ SqT K H a (nums rg) ∧ rg ≠ [] ∧ rg.length ≤ 1000 ∧
  ∀ (H' : Hp) (p : Addr), Same H H' → SqT K H' p (nums (rot rg (m % rg.length).toNat)) → Q (.ref p) H'
def spLeastWalk (K : PySem.W.Frag) : Sp := fun vs H Q _ => ∃ (a b : Addr) (ah rg : List Nat), vs = [.ref a, .ref b] ∧ SqT K H a (nums ah) ∧ SqT K H b (nums rg) ∧ rg ≠ [] ∧ ah.length ≤ 1000 ∧ rg.length ≤ 1000 ∧
  ∀ (H' : Hp) (u p1 p2 : Addr) (ah' rg' : List Nat), Same H H' → H' u = some (.tup [.ref p1, .ref p2]) → SqT K H' p1 (nums ah') → SqT K H' p2 (nums rg') → Red ah' rg' → (∀ i, beat ah' rg' i = beat ah rg i) → ah'.length ≤ ah.length → rg'.length ≤ rg.length → Q (.ref u) H'
section
variable {P : Program} {w : World} {K : PySem.W.Frag} {mg : Str → Option Value} {base : Heap}
abbrev nShortest : List Str := ["ring", "many"]
theorem scShortest : FnScope nShortest ["ring"] (defScope sShortest) := ⟨rfl, rfl, rfl, by decide +kernel, rfl, by decide +kernel, by decide +kernel⟩
theorem ok_shortest {f : Addr} {fd : FuncData} (F : Fun K "shortest" "shortest" sShortest f fd) (mLen : mg "len" = none) (mRange : mg "range" = none) : FnOk P w K mg base CX0 1 f fd ["ring"] (spShortest K) := by
  refine F.ok scShortest (fun vs H Q E h => ?_) (fun cdv A outer s H vs Q E hr h => ?_)
  · obtain ⟨a, rg, rfl, _⟩ := h
    rfl
  · obtain ⟨a, rg, rfl, hS, hn, hl, k⟩ := h
    have ln := nums_len rg
    have hp := List.length_pos_iff.mpr hn
    refine ⟨_, (pss_cons (ps_for PassesOwn.never rfl (pi_range2 (by rfl) mRange (pa_cons pe_int (pa_cons (pe_callB call_len_seq (by rfl) mLen PySem.boot_len (pa_cons (pv 0) pa_nil)) pa_nil))) (pg_name (i := 1) scShortest.nd rfl (Or.inl rfl))
       (pss_one (ps_if (PW.pt (pw_and (pt_cmpR op_eq (pe_op op_mod (pe_callB call_len_seq (by rfl) mLen PySem.boot_len (pa_cons (pv 0) pa_nil)) (pv 1)) pe_int (nomark _)) (pw_and1 (pt_cmpR (op_eqD hr.units) (pe_op op_repT (pe_slice sl_tup (pv 0) po_none (po_some (pv 1))) (pe_op op_fdiv (pe_callB call_len_seq (by rfl) mLen PySem.boot_len (pa_cons (pv 0) pa_nil)) (pv 1))) (pv 0) (nomark _)))))
       (pss_one (ps_ret (pe_slice sl_tup (pv 0) po_none (po_some (pv 1)))))
       pss_nil)))
       (pss_one (ps_ret (pv 0)))), ?_⟩
    refine ⟨_, rfl, a, _, rfl, .inr hS, 1, (rg.length : Int), by rw [ln], ⟨by decide, by decide, by omega, by omega⟩, ?_⟩
    refine for_range (lo := 1) (n := ((rg.length : Int) - 1).toNat) (fun i σ H' => (∃ v1 : Option V, σ = [some (.ref a), v1]) ∧ (∀ d, 0 < d → d < i + 1 → ¬ perOk rg d) ∧ Same H H') ⟨⟨none, rfl⟩, fun d d0 d1 => absurd d0 (by omega), Same.refl H⟩ ?_ ?_
    · rintro i σ H' hi ⟨⟨v1, rfl⟩, hno, s'⟩
      have em : (1 : Int) + (i : Nat) = ((i + 1 : Nat) : Int) := by omega
      rw [em]
      have hS' : SqT K H' a (nums rg) := sqT_kp (Same.kp s') hS
      have hi' : i + 1 < rg.length := by omega
      refine ⟨_, rfl, a, _, rfl, .inr hS', _, rfl, _, _, rfl, rfl, by omega, rfl, ?_⟩
      by_cases hd : rg.length % (i + 1) = 0
      case neg => 
        refine ⟨false, congrArg V.bl (decide_eq_false fun z => hd ?_), iteF (iteF ⟨⟨_, rfl⟩, fun d d0 d1 => ?_, s'⟩)⟩
        · injection z with z
          rw [ln] at z
          omega
        · by_cases e : d = i + 1
          · rw [e]
            exact fun z => hd z.1
          · exact hno d d0 (by omega)
      refine ⟨true, congrArg V.bl (decide_eq_true (by rw [ln]; exact congrArg V.int (by omega))), iteT ?_⟩
      have hfl : rg.length / (i + 1) * (i + 1) = rg.length := Nat.div_mul_cancel (Nat.dvd_of_mod_eq_zero hd)
      have h2 : 2 ≤ rg.length / (i + 1) := by
        by_cases q : 2 ≤ rg.length / (i + 1)
        · exact q
        · exfalso
          have h1 : rg.length / (i + 1) ≤ 1 := by omega
          have h3 := Nat.mul_le_mul_right (i + 1) h1
          omega
      have h3 : rg.length / (i + 1) ≤ rg.length := Nat.div_le_self _ _
      refine ⟨_, rfl, _, rfl, _, rfl, a, _, rfl, hS', ?_, fun p1 hp1 => ?_⟩
      · rw [ln, sIx_nat (by omega)]
        exact fun z => absurd z.2 (by omega)
      rw [cut_to rg (show i + 1 ≤ rg.length by omega)]
      have s1 : Same H (upd H' p1 (.tup (nums (rg.take (i + 1))))) := same_new s' hp1
      have ek : (((nums rg).length : Nat) : Int) / ((i + 1 : Nat) : Int) = ((rg.length / (i + 1) : Nat) : Int) := by rw [ln]; rfl
      refine ⟨_, rfl, a, _, rfl, .inr (sqT_kp (Same.kp s1) hS), _, rfl, _, _, rfl, rfl, ⟨by omega, by omega⟩, p1, ((rg.length / (i + 1) : Nat) : Int), _, rfl, congrArg V.int ek, SqT.of upd_same, ?_, by omega, by omega, by rw [nums_len, List.length_take]; omega, fun p2 hp2 => ?_⟩
      · exact nums_ne (by rw [List.length_take]; omega)
      have et : ((rg.length / (i + 1) : Nat) : Int).toNat = rg.length / (i + 1) := by omega
      rw [et, nums_rep]
      have s2 := same_new s1 (o := .tup (nums ((List.replicate (rg.length / (i + 1)) (rg.take (i + 1))).flatten))) hp2
      refine ⟨_, rfl, rowD _, rowD rg, dp_row (SqT.of upd_same), dp_row (sqT_kp (Same.kp s2) hS), row_shaped _, row_shaped _, ?_⟩
      rw [rowD_eqv]
      by_cases hq : (List.replicate (rg.length / (i + 1)) (rg.take (i + 1))).flatten = rg
      · have hok := (rep_iff (by omega) (by omega) hd).mp hq
        refine ⟨true, congrArg V.bl (decide_eq_true hq), iteT ?_⟩
        refine ⟨_, rfl, _, rfl, _, rfl, a, _, rfl, sqT_kp (Same.kp s2) hS, ?_, fun p3 hp3 => ?_⟩
        · rw [ln, sIx_nat (by omega)]
          exact fun z => absurd z.2 (by omega)
        rw [cut_to rg (show i + 1 ≤ rg.length by omega)]
        exact k _ p3 (i + 1) (same_new s2 hp3) (SqT.of upd_same) (by omega) (by omega) hok hno
      · refine ⟨false, congrArg V.bl (decide_eq_false hq), iteF ⟨⟨_, rfl⟩, fun d d0 d1 => ?_, s2⟩⟩
        by_cases e : d = i + 1
        · rw [e]
          exact fun z => hq ((rep_iff (by omega) (by omega) hd).mpr z)
        · exact hno d d0 (by omega)
    · rintro σ H' ⟨⟨v1, rfl⟩, hno, s'⟩
      refine ⟨_, rfl, k H' a rg.length s' (by rw [List.take_length]; exact sqT_kp (Same.kp s') hS) hp (Nat.le_refl _) (perOk_self rg) fun d d0 d1 => hno d d0 (by omega)⟩
abbrev nTurned : List Str := ["ring", "many", "cut"]
theorem scTurned : FnScope nTurned ["ring", "many"] (defScope sTurned) := ⟨rfl, rfl, rfl, by decide +kernel, rfl, by decide +kernel, by decide +kernel⟩
theorem ok_turned {f : Addr} {fd : FuncData} (F : Fun K "turned" "turned" sTurned f fd) (mLen : mg "len" = none) : FnOk P w K mg base CX0 1 f fd ["ring", "many"] (spTurned K) := by
  refine F.ok scTurned (fun vs H Q E h => ?_) (fun cdv A outer s H vs Q E hr h => ?_)
  · obtain ⟨a, rg, m, rfl, _⟩ := h
    rfl
  · obtain ⟨a, rg, m, rfl, hS, hn, hl, k⟩ := h
    have ln := nums_len rg
    have hp := List.length_pos_iff.mpr hn
    have m0 : 0 ≤ m % (rg.length : Int) := Int.emod_nonneg _ (by omega)
    have m1 : m % (rg.length : Int) < rg.length := Int.emod_lt_of_pos _ (by omega)
    refine ⟨_, (pss_cons (ps_set (i := 2) scTurned.nd rfl (Or.inl rfl) (pe_op op_mod (pv 1) (pe_callB call_len_seq (by rfl) mLen PySem.boot_len (pa_cons (pv 0) pa_nil))))
       (pss_one (ps_ret (pe_op op_catA (pe_slice sl_tupA (pv 0) (po_some (pv 2)) po_none) (pe_slice sl_tupA (pv 0) po_none (po_some (pv 2))))))), ?_⟩
    refine ⟨_, rfl, _, rfl, a, _, rfl, .inr hS, _, _, rfl, rfl, by omega, ?_⟩
    generalize hc : (m % (rg.length : Int)).toNat = c at k
    have ec : m % (((nums rg).length : Nat) : Int) = ((c : Nat) : Int) := by rw [ln]; omega
    have hcl : c < rg.length := by omega
    dsimp only
    rw [ec]
    have nf2 : ∀ z : HT.sIx (nums rg).length 0 none = 0 ∧ HT.sIx (nums rg).length (nums rg).length (some (c : Int)) = (nums rg).length, False := by
      rw [ln, sIx_nat (by omega)]
      exact fun z => absurd z.2 (by omega)
    by_cases h0 : c = 0
    · subst h0
      have full : HT.sIx (nums rg).length 0 (some ((0 : Nat) : Int)) = 0 ∧ HT.sIx (nums rg).length (nums rg).length none = (nums rg).length := by
        rw [ln, sIx_nat (by omega)]
        exact ⟨rfl, rfl⟩
      refine ⟨_, rfl, _, rfl, _, rfl, a, _, rfl, hS, fun _ => ?_, fun z => absurd full z⟩
      refine ⟨_, rfl, _, rfl, _, rfl, a, _, rfl, hS, fun z => (nf2 z).elim, fun _ p2 hp2 => ?_⟩
      rw [cut_to rg (Nat.zero_le _)]
      have s2 : Same H (upd H p2 (.tup (nums (rg.take 0)))) := same_new (Same.refl H) hp2
      refine ⟨a, p2, _, _, rfl, rfl, sqT_kp (Same.kp s2) hS, SqT.of upd_same, ?_, fun z => ?_, fun _ _ => ?_, fun _ z => absurd rfl z⟩
      · rw [sizeLine_eq, ln, nums_len, List.length_take]
        omega
      · exact absurd z (nums_ne hp)
      · exact k _ a s2 (by rw [rot_zero]; exact sqT_kp (Same.kp s2) hS)
    · have nf : ¬ (HT.sIx (nums rg).length 0 (some (c : Int)) = 0 ∧ HT.sIx (nums rg).length (nums rg).length none = (nums rg).length) := by
        rw [ln, sIx_nat (by omega)]
        exact fun z => h0 z.1
      refine ⟨_, rfl, _, rfl, _, rfl, a, _, rfl, hS, fun z => absurd z nf, fun _ p1 hp1 => ?_⟩
      rw [cut_from rg (show c ≤ rg.length by omega)]
      have s1 : Same H (upd H p1 (.tup (nums (rg.drop c)))) := same_new (Same.refl H) hp1
      refine ⟨_, rfl, _, rfl, _, rfl, a, _, rfl, sqT_kp (Same.kp s1) hS, fun z => (nf2 z).elim, fun _ p2 hp2 => ?_⟩
      rw [cut_to rg (show c ≤ rg.length by omega)]
      have s2 : Same H (upd (upd H p1 (.tup (nums (rg.drop c)))) p2 (.tup (nums (rg.take c)))) := same_new s1 hp2
      refine ⟨p1, p2, _, _, rfl, rfl, SqT.of ((upd_ne (ne_of_none upd_same hp2)).trans upd_same), SqT.of upd_same, ?_, fun z => ?_, fun _ z => ?_, fun _ _ p3 hp3 => ?_⟩
      · rw [sizeLine_eq, nums_len, nums_len, List.length_take, List.length_drop]
        omega
      · exact absurd z (nums_ne (by rw [List.length_drop]; omega))
      · exact absurd z (nums_ne (by rw [List.length_take]; omega))
      · refine k _ p3 (same_new s2 hp3) (SqT.of ?_)
        rw [upd_same]
        unfold rot nums
        rw [List.map_append]
/-- how far a loop is turned when so many arrows ahead are left -/
def cI (L g m : Nat) : Nat := (((m : Int) - L) % g).toNat
theorem cI_lt {L g m : Nat} (h : 0 < g) : cI L g m < g := by
  unfold cI
  have := Int.emod_lt_of_pos ((m : Int) - L) (show (0 : Int) < g by omega)
  have := Int.emod_nonneg ((m : Int) - L) (show (g : Int) ≠ 0 by omega)
  omega
theorem cI_int {L g m : Nat} (h : 0 < g) : ((m : Int) - L) % g = ((cI L g m : Nat) : Int) := by
  unfold cI
  have := Int.emod_nonneg ((m : Int) - L) (show (g : Int) ≠ 0 by omega)
  omega
theorem cI_back {L g m : Nat} (h : 0 < g) : cI L g m = (cI L g (m + 1) + g - 1) % g := by
  have e : ((m : Int) - L) % g = ((((m + 1 : Nat) : Int) - L) % g + g - 1) % g := by
    have z := Int.emod_add_mul_ediv (((m + 1 : Nat) : Int) - L) g
    have e2 : (m : Int) - L = (((m + 1 : Nat) : Int) - L) % g + g - 1 + g * ((((m + 1 : Nat) : Int) - L) / g - 1) := by
      rw [Int.mul_sub, Int.mul_one]
      omega
    rw [e2, Int.add_mul_emod_self_left]
  rw [cI_int h, cI_int h] at e
  have := cI_lt (L := L) (m := m + 1) h
  have e3 : ((cI L g (m + 1) : Nat) : Int) + (g : Int) - 1 = ((cI L g (m + 1) + g - 1 : Nat) : Int) := by omega
  rw [e3] at e
  exact Int.ofNat.inj e
theorem cI_top (L g : Nat) : cI L g L = 0 := by
  unfold cI
  rw [Int.sub_self, Int.zero_emod]
  rfl
abbrev nLeastWalk : List Str := ["ahead", "ring", "loop", "left"]
theorem scLeastWalk : FnScope nLeastWalk ["ahead", "ring"] (defScope sLeastWalk) := ⟨rfl, rfl, rfl, by decide +kernel, rfl, by decide +kernel, by decide +kernel⟩
theorem ok_leastWalk {f fS fT : Addr} {fd fdS fdT : FuncData} (F : Fun K "least_walk" "least_walk" sLeastWalk f fd) (GS : FnOk P w K mg base CX0 1 fS fdS ["ring"] (spShortest K)) (bS : Binds K fdS ["ring"] []) (mS : mg "shortest" = some (.ref fS)) (kS : PySem.W.keepIn K (.ref fS) = true)
    (GT : FnOk P w K mg base CX0 1 fT fdT ["ring", "many"] (spTurned K)) (bT : Binds K fdT ["ring", "many"] []) (mT : mg "turned" = some (.ref fT)) (kT : PySem.W.keepIn K (.ref fT) = true) (mLen : mg "len" = none) : FnOk P w K mg base CX0 2 f fd ["ahead", "ring"] (spLeastWalk K) := by
  refine F.ok scLeastWalk (fun vs H Q E h => ?_) (fun cdv A outer s H vs Q E hr h => ?_)
  · obtain ⟨a, b, ah, rg, rfl, _⟩ := h
    rfl
  · obtain ⟨a, b, ah, rg, rfl, hA, hB, hn, hla, hlr, k⟩ := h
    refine ⟨_, (pss_cons (ps_set (i := 2) scLeastWalk.nd rfl (Or.inl rfl) (pe_call GS hr rfl mS kS bS .nil pass0 (pa_cons (pv 1) pa_nil)))
       (pss_cons (ps_set (i := 3) scLeastWalk.nd rfl (Or.inl rfl) (pe_callB call_len_seq (by rfl) mLen PySem.boot_len (pa_cons (pv 0) pa_nil)))
       (C8.pss_cut (ps_while PassesOwn.never (PW.pt (pw_and (pt_cmpR op_gt (pv 3) pe_int (nomark _)) (pw_and1 (pt_cmpR op_eq (pe_ix ix_tup (pv 0) (pe_op op_sub (pv 3) pe_int) (fun _ _ => rfl)) (pe_ix ix_tup (pv 2) (pe_op op_mod (pe_op op_sub (pe_op op_sub (pv 3) pe_int) (pe_callB call_len_seq (by rfl) mLen PySem.boot_len (pa_cons (pv 0) pa_nil))) (pe_callB call_len_seq (by rfl) mLen PySem.boot_len (pa_cons (pv 2) pa_nil))) (fun _ _ => rfl)) (nomark _)))))
         (pss_one (ps_aug (i := 3) scLeastWalk.nd rfl (Or.inl rfl) pe_int ip_sub)))
       (pss_one (ps_ret (pe_tup (pa_cons (pe_slice sl_tupA (pv 0) po_none (po_some (pv 3))) (pa_cons (pe_call GT hr rfl mT kT bT .nil pass0 (pa_cons (pv 2) (pa_cons (pe_op op_sub (pv 3) (pe_callB call_len_seq (by rfl) mLen PySem.boot_len (pa_cons (pv 0) pa_nil))) pa_nil))) pa_nil)))))))), ?_⟩
    refine ⟨_, rfl, b, rg, rfl, hB, hn, hlr, fun H1 p g s1 hP g0 gl hper hleast => ?_⟩
    have hA1 : SqT K H1 a (nums ah) := sqT_kp (Same.kp s1) hA
    have lg : (rg.take g).length = g := by rw [List.length_take]; omega
    have hprim : Prim (rg.take g) := part_prim g0 gl hper hleast
    have hbeat : ∀ i, beat ah (rg.take g) i = beat ah rg i := beat_part g0 gl hper
    generalize rg.take g = loop at hP lg hprim hbeat
    have lp : (nums loop).length = g := (nums_len loop).trans lg
    have la := nums_len ah
    refine ⟨_, rfl, a, _, rfl, .inr hA1, ?_⟩
    rw [la]
    refine ⟨fun σ H' => ∃ m : Nat, σ = [some (.ref a), some (.ref b), some (.ref p), some (.int (m : Int))] ∧ m ≤ ah.length ∧ Same H1 H' ∧ (∀ i, beat (ah.take m) (rot loop (cI ah.length g m)) i = beat ah rg i) ∧ (ah.take m ≠ [] → (ah.take m).getLastD 0 ≠ (rot loop (cI ah.length g m)).getLastD 0), ?_, ?_⟩
    · refine ⟨fun m σ H' => σ = [some (.ref a), some (.ref b), some (.ref p), some (.int (m : Int))] ∧ m ≤ ah.length ∧ Same H1 H' ∧ (∀ i, beat (ah.take m) (rot loop (cI ah.length g m)) i = beat ah rg i), ⟨ah.length, rfl, Nat.le_refl _, Same.refl H1, fun i => ?_⟩, ?_⟩
      · rw [List.take_length, cI_top, rot_zero]
        exact hbeat i
      rintro m σ H2 ⟨rfl, hm, s2, hbm⟩
      refine ⟨_, rfl, _, _, rfl, rfl, ?_⟩
      by_cases h0 : m = 0
      · subst h0
        exact ⟨false, congrArg V.bl (decide_eq_false (by omega)), iteF (iteF ⟨0, rfl, hm, s2, hbm, fun z => absurd (List.take_zero) z⟩)⟩
      obtain ⟨m, rfl⟩ : ∃ j, m = j + 1 := ⟨m - 1, by omega⟩
      refine ⟨true, congrArg V.bl (decide_eq_true (by omega)), iteT ?_⟩
      have e1 : (((m + 1 : Nat) : Int) - 1) = ((m : Nat) : Int) := by omega
      have hA2 : SqT K H2 a (nums ah) := sqT_kp (Same.kp s2) hA1
      have hP2 : SqT K H2 p (nums loop) := sqT_kp (Same.kp s2) hP
      refine ⟨_, rfl, _, rfl, _, _, rfl, rfl, a, _, _, _, rfl, rfl, hA2, by rw [e1]; exact atI_nat (numsAt (show m < ah.length by omega)), ?_⟩
      have c0 := cI_lt (L := ah.length) (m := m) g0
      have e2 : (((m + 1 : Nat) : Int) - 1 - (((nums ah).length : Nat) : Int)) % (((nums loop).length : Nat) : Int) = ((cI ah.length g m : Nat) : Int) := by
        rw [e1, la, lp]
        exact cI_int g0
      refine ⟨_, rfl, _, rfl, _, _, rfl, rfl, _, rfl, a, _, rfl, .inr hA2, _, _, rfl, rfl, _, rfl, p, _, rfl, .inr hP2, _, _, rfl, rfl, by rw [lp]; omega, p, _, _, _, rfl, rfl, hP2, by rw [e2]; exact atI_nat (numsAt (show cI ah.length g m < loop.length by omega)), rfl, ?_⟩
      have hlast : (rot loop (cI ah.length g (m + 1))).getLastD 0 = loop.getD (cI ah.length g m) 0 := by
        rw [rot_last (by have := cI_lt (L := ah.length) (m := m + 1) g0; omega), lg, ← cI_back g0]
      have htake : ah.take (m + 1) = ah.take m ++ [ah.getD m 0] := by
        rw [List.take_add_one, List.getD_eq_getElem?_getD, List.getElem?_eq_getElem (show m < ah.length by omega)]
        rfl
      by_cases he : ah.getD m 0 = loop.getD (cI ah.length g m) 0
      · refine ⟨true, congrArg V.bl (decide_eq_true (by rw [he])), iteT ⟨fun σ' H' => ∃ m', m' < m + 1 ∧ (σ' = [some (.ref a), some (.ref b), some (.ref p), some (.int ((m' : Nat) : Int))] ∧ m' ≤ ah.length ∧ Same H1 H' ∧ (∀ i, beat (ah.take m') (rot loop (cI ah.length g m')) i = beat ah rg i)), fun σ' H' z => z, ?_⟩⟩
        refine ⟨_, rfl, _, _, rfl, rfl, m, by omega, by show List.set _ 3 (some (V.int (((m + 1 : Nat) : Int) - 1))) = _; rw [e1]; rfl, by omega, s2, fun i => ?_⟩
        have hr0 : rot loop (cI ah.length g (m + 1)) ≠ [] := rot_ne (by have := cI_lt (L := ah.length) (m := m + 1) g0; omega) (fun z => by rw [z] at lg; simp at lg; omega)
        have e3 : rot loop (cI ah.length g m) = back1 (rot loop (cI ah.length g (m + 1))) := by
          rw [back1_rot (by have := cI_lt (L := ah.length) (m := m + 1) g0; omega), lg, ← cI_back g0]
        rw [e3, beat_back hr0, hlast, ← he, ← htake]
        exact hbm i
      · refine ⟨false, congrArg V.bl (decide_eq_false fun z => he ?_), iteF ⟨m + 1, rfl, hm, s2, hbm, fun _ => ?_⟩⟩
        · injection z with z
          exact Int.ofNat.inj z
        · rw [hlast, htake, List.getLastD_eq_getLast?, List.getLast?_append]
          exact he
    rintro σ H2 ⟨m, rfl, hm, s2, hbm, hlast⟩
    have hA2 : SqT K H2 a (nums ah) := sqT_kp (Same.kp s2) hA1
    have hcg := cI_lt (L := ah.length) (m := m) g0
    have hred : Red (ah.take m) (rot loop (cI ah.length g m)) := ⟨rot_ne (by omega) (fun z => by rw [z] at lg; simp at lg; omega), rot_prim (by omega) hprim, hlast⟩
    have fin : ∀ (H3 : Hp) (p1 : Addr), Same H2 H3 → SqT K H3 p1 (nums (ah.take m)) → spTurned K [.ref p, .int ((m : Int) - (((nums ah).length : Nat) : Int))] H3 (fun v H4 => [V.ref p1, v].length ≤ sizeLine ∧ ∀ u, H4 u = none → Q (.ref u) (upd H4 u (.tup [.ref p1, v]))) L2.E0 := fun H3 p1 s3 h1 => by
      refine ⟨p, loop, _, rfl, sqT_kp (Same.kp (s2.trans s3)) hP, fun z => by rw [z] at lg; simp at lg; omega, by omega, fun H4 p2 s4 h2 => ⟨by show 2 ≤ sizeLine; decide, fun u hu => ?_⟩⟩
      have e : ((m : Int) - (((nums ah).length : Nat) : Int)) % ((loop.length : Nat) : Int) = ((cI ah.length g m : Nat) : Int) := by
        rw [la, lg]
        exact cI_int g0
      rw [e] at h2
      have sN : Same H4 (upd H4 u (.tup [.ref p1, .ref p2])) := same_new (Same.refl H4) hu
      refine k _ u p1 p2 (ah.take m) (rot loop (cI ah.length g m)) (((s1.trans s2).trans s3).trans (s4.trans sN)) upd_same (sqT_kp (Same.kp (s4.trans sN)) h1) (sqT_kp (Same.kp sN) h2) hred hbm ?_ ?_
      · rw [List.length_take]
        omega
      · rw [rot_len (by omega)]
        omega
    refine ⟨_, rfl, _, rfl, _, rfl, a, _, rfl, hA2, fun full => ?_, fun nf p1 hp1 => ?_⟩
    · have em : m = ah.length := by
        rw [la, sIx_nat hm] at full
        exact full.2
      refine ⟨_, rfl, _, rfl, _, rfl, a, _, rfl, .inr hA2, _, _, rfl, rfl, ?_⟩
      exact fin H2 a (Same.refl H2) (by rw [em, List.take_length]; exact hA2)
    · rw [cut_to ah hm]
      have s3 : Same H2 (upd H2 p1 (.tup (nums (ah.take m)))) := same_new (Same.refl H2) hp1
      refine ⟨_, rfl, _, rfl, _, rfl, a, _, rfl, .inr (sqT_kp (Same.kp s3) hA2), _, _, rfl, rfl, ?_⟩
      exact fin _ p1 s3 (SqT.of upd_same)
end
end KW


set_option Elab.async false
set_option maxRecDepth 100000
set_option maxHeartbeats 2000000
/-! The program's walks: whether arrows follow one another. -/
namespace KW
open PySem PySem.Spec PyProof.Rows L2
abbrev sFollows : Stmt := inClass sWebClass 17
abbrev sWrongPl : Stmt := inClass sWebClass 18
abbrev sNeedWalk : Stmt := topS 12
abbrev sWalkText : Stmt := topS 16
/-- a place of a row where all is well -/
def okAt (ps : List (Nat × Nat)) (r : List Int) (k : Nat) : Prop := (0 ≤ r.getD k 0 ∧ r.getD k 0 < ps.length) ∧ (0 < k → (ps.getD (r.getD k 0).toNat (0, 0)).1 = (ps.getD (r.getD (k - 1) 0).toNat (0, 0)).2)
def spFollows (C : Addr) : Sp := fun vs H Q _ => ∃ (x : Addr) (n : Nat) (ps : List (Nat × Nat)) (i j : Nat), vs = [.ref x, .int i, .int j] ∧ WebAt C H x n ps ∧ i < ps.length ∧ j < ps.length ∧ Q (.bl (decide ((ps.getD i (0, 0)).1 = (ps.getD j (0, 0)).2))) H
def spWrong (K : PySem.W.Frag) (C : Addr) : Sp := fun vs H Q _ => ∃ (x a : Addr) (n : Nat) (ps : List (Nat × Nat)) (r : List Int), vs = [.ref x, .ref a] ∧ WebAt C H x n ps ∧ (SqL K H a (r.map V.int) ∨ SqT K H a (r.map V.int)) ∧
  ∀ (H' : Hp) (k : Nat), Same H H' → k ≤ r.length → (∀ j, j < k → okAt ps r j) → (k < r.length → ¬ okAt ps r k) → Q (.int (k : Nat)) H'
def intsN (l : List Nat) : List Int := l.map fun (a : Nat) => (a : Int)
theorem intsN_map (l : List Nat) : (intsN l).map V.int = nums l := by
  unfold intsN nums
  rw [List.map_map]
  rfl
theorem intsN_len (l : List Nat) : (intsN l).length = l.length := by unfold intsN; rw [List.length_map]
theorem intsN_getD (l : List Nat) (i : Nat) : (intsN l).getD i 0 = ((l.getD i 0 : Nat) : Int) := by
  unfold intsN
  rw [List.getD_eq_getElem?_getD, List.getD_eq_getElem?_getD, List.getElem?_map]
  cases l[i]? <;> rfl
theorem WebAt.sameW {C : Addr} {H H' : Hp} {x : Addr} {n : Nat} {ps : List (Nat × Nat)} (s : Same H H') (h : WebAt C H x n ps) : WebAt C H' x n ps := by
  obtain ⟨dx, q, lv, en, as, ls, es, h1, h2⟩ := id h
  exact h.to (Same.kp s) ((s _ _ h1).trans h1.symm)
theorem ps_at {ps : List (Nat × Nat)} {i : Nat} (h : i < ps.length) : ps[i]? = some (ps.getD i (0, 0)) := by
  rw [List.getD_eq_getElem?_getD, List.getElem?_eq_getElem h]
  rfl
theorem dec_nat (a b : Nat) : decide (V.int (a : Int) = V.int (b : Int)) = decide (a = b) := by
  by_cases h : a = b
  · rw [h]
    simp
  · have h' : ¬ (V.int (a : Int) = V.int (b : Int)) := fun z => h (by injection z with z; exact Int.ofNat.inj z)
    simp [h, h']
theorem args2 {x : Addr} {u v : Int} (hu : 0 ≤ u) (hv : 0 ≤ v) : [V.ref x, V.int u, V.int v] = [V.ref x, V.int ((u.toNat : Nat) : Int), V.int ((v.toNat : Nat) : Int)] := by
  rw [Int.toNat_of_nonneg hu, Int.toNat_of_nonneg hv]
section
variable {P : Program} {w : World} {K : PySem.W.Frag} {mg : Str → Option Value} {base : Heap}
abbrev nFollows : List Str := ["self", "arrow", "ahead"]
theorem scFollows : FnScope nFollows ["self", "arrow", "ahead"] (defScope sFollows) := ⟨rfl, rfl, rfl, by decide +kernel, rfl, by decide +kernel, by decide +kernel⟩
theorem ok_follows {f C : Addr} {fd : FuncData} (F : Fun K "follows" "Web.follows" sFollows f fd) (T : WebC K C) : FnOk P w K mg base CX0 1 f fd ["self", "arrow", "ahead"] (spFollows C) := by
  refine F.ok scFollows (fun vs H Q E h => ?_) (fun cdv A outer s H vs Q E hr h => ?_)
  · obtain ⟨x, n, ps, i, j, rfl, _⟩ := h
    rfl
  · obtain ⟨x, n, ps, i, j, rfl, ⟨dx, q, lv, en, as, ls, es, hx, hq, hP, _⟩, hi, hj, k⟩ := h
    obtain ⟨c1, hc1, hp1⟩ := pair_at hP (ps_at hi)
    obtain ⟨c2, hc2, hp2⟩ := pair_at hP (ps_at hj)
    refine ⟨_, (pss_one (ps_ret (pe_cmpR op_eq (pe_ix ix_tup (pe_ix ix_tup (pe_fld (pv 0) rfl) (pv 1) (fun _ _ => rfl)) pe_int (fun _ _ => rfl)) (pe_ix ix_tup (pe_ix ix_tup (pe_fld (pv 0) rfl) (pv 2) (fun _ _ => rfl)) pe_int (fun _ _ => rfl)) (nomark _)))), ?_⟩
    refine ⟨_, rfl, x, C, dx, _, _, rfl, hx, T.cl, T.nP, wf_pairs _ _ _ _, _, rfl, q, _, _, _, rfl, rfl, hq.sq, atI_nat hc1, c1, _, _, _, rfl, rfl, SqT.of hp1, rfl, _, rfl, x, C, dx, _, _, rfl, hx, T.cl, T.nP, wf_pairs _ _ _ _, _, rfl, q, _, _, _, rfl, rfl, hq.sq, atI_nat hc2, c2, _, _, _, rfl, rfl, SqT.of hp2, rfl, rfl, ?_⟩
    rw [dec_nat]
    exact k
abbrev nWrong : List Str := ["self", "row", "at", "arrow"]
theorem scWrongPl : FnScope nWrong ["self", "row"] (defScope sWrongPl) := ⟨rfl, rfl, rfl, by decide +kernel, rfl, by decide +kernel, by decide +kernel⟩
theorem ok_wrong {f fH fF C : Addr} {fd fdH fdF : FuncData} (F : Fun K "wrong_place" "Web.wrong_place" sWrongPl f fd) (T : WebC K C) (GH : FnOk P w K mg base CX0 1 fH fdH ["self", "arrow"] (spHas C)) (bH : Binds K fdH ["self", "arrow"] []) (mH : Meth K C "has_arrow" fH)
    (GF : FnOk P w K mg base CX0 1 fF fdF ["self", "arrow", "ahead"] (spFollows C)) (bF : Binds K fdF ["self", "arrow", "ahead"] []) (mF : Meth K C "follows" fF) (mLen : mg "len" = none) (mEnum : mg "enumerate" = none) : FnOk P w K mg base CX0 2 f fd ["self", "row"] (spWrong K C) := by
  refine F.ok scWrongPl (fun vs H Q E h => ?_) (fun cdv A outer s H vs Q E hr h => ?_)
  · obtain ⟨x, a, n, ps, r, rfl, _⟩ := h
    rfl
  · obtain ⟨x, a, n, ps, r, rfl, W, hS, k⟩ := h
    have lr : (r.map V.int).length = r.length := List.length_map ..
    have at_r : ∀ {i : Nat}, i < r.length → (r.map V.int)[i]? = some (.int (r.getD i 0)) := fun {i} h => by
      rw [List.getElem?_map, List.getD_eq_getElem?_getD, List.getElem?_eq_getElem h]
      rfl
    rcases hS with hS | hS
    · refine ⟨_, (pss_cons (ps_for PassesOwn.never rfl (pi_enum (by rfl) mEnum (pa_cons (pv 1) pa_nil)) (pg_tup rfl (pgs_cons (pg_name (i := 2) scWrongPl.nd rfl (Or.inl rfl)) (pgs_cons (pg_name (i := 3) scWrongPl.nd rfl (Or.inl rfl)) pgs_nil)))
         (pss_cons (ps_if (pt_not (pt_val (pe_meth (pv 0) T.cl mH GH hr bH .nil pass0 (pa_cons (pv 3) pa_nil))))
         (pss_one (ps_ret (pv 2)))
         pss_nil)
         (pss_one (ps_if (PW.pt (pw_and (pt_cmpR op_gt (pv 2) pe_int (nomark _)) (pw_and1 (pt_not (pt_val (pe_meth (pv 0) T.cl mF GF hr bF .nil pass0 (pa_cons (pv 3) (pa_cons (pe_ix ix_list (pv 1) (pe_op op_sub (pv 2) pe_int) (fun _ _ => rfl)) pa_nil))))))))
         (pss_one (ps_ret (pv 2)))
         pss_nil))))
         (pss_one (ps_ret (pe_callB call_len_seq (by rfl) mLen PySem.boot_len (pa_cons (pv 1) pa_nil))))), ?_⟩
      refine ⟨_, rfl, a, _, rfl, hS, for_it (walk_enum (K := K) (a := a) (xs := r.map V.int)) (fun i σ H' => (∃ v2 v3 : Option V, σ = [some (.ref x), some (.ref a), v2, v3]) ∧ (∀ j, j < i → okAt ps r j) ∧ Same H H') ⟨⟨none, none, rfl⟩, fun j hj => absurd hj (Nat.not_lt_zero _), Same.refl H⟩ (fun i σ H' _ ⟨_, _, s'⟩ => s'.seq hS) ?_ ?_⟩
      · rintro i y σ H' H2 hi ⟨⟨v2, v3, rfl⟩, hok, s'⟩ ⟨Tt, x1, x2, rfl, hT, rfl, e1, e2⟩
        have e1 : V.int (i : Nat) = x1 := Option.some.inj e1
        subst e1
        have hi' : i < r.length := by omega
        have e2 : (r.map V.int)[i]? = some x2 := e2
        rw [at_r hi'] at e2
        have e2 := Option.some.inj e2
        subst e2
        have s2 : Same H (upd H' Tt (.tup [.int (i : Nat), .int (r.getD i 0)])) := same_new s' hT
        generalize hH3 : upd H' Tt (.tup [.int (i : Nat), .int (r.getD i 0)]) = H3 at s2
        have hT3 : H3 Tt = some (.tup [.int (i : Nat), .int (r.getD i 0)]) := by rw [← hH3]; exact upd_same
        have W2 := W.sameW s2
        obtain ⟨dx, q, lv, en, as, ls, es, hx, hq, hP, _⟩ := id W2
        refine ⟨Tt, _, rfl, SqT.of hT3, rfl, _, _, rfl, _, _, rfl, rfl, ?_⟩
        by_cases h1 : 0 ≤ r.getD i 0 ∧ r.getD i 0 < ps.length
        case neg =>
          refine ⟨_, rfl, x, dx, _, rfl, hx, wf_meth _ _ _ _ (by decide +kernel), _, rfl, x, n, ps, _, rfl, W2, false, congrArg V.bl (decide_eq_false h1), iteT ⟨_, rfl, k _ i s2 (by omega) hok fun _ z => h1 z.1⟩⟩
        refine ⟨_, rfl, x, dx, _, rfl, hx, wf_meth _ _ _ _ (by decide +kernel), _, rfl, x, n, ps, _, rfl, W2, true, congrArg V.bl (decide_eq_true h1), iteF ?_⟩
        have nx : okAt ps r i → (∃ v2 v3 : Option V, [some (V.ref x), some (.ref a), some (.int (i : Nat)), some (.int (r.getD i 0))] = [some (.ref x), some (.ref a), v2, v3]) ∧ (∀ j, j < i + 1 → okAt ps r j) ∧ Same H H3 := fun z => ⟨⟨_, _, rfl⟩, fun j hj => by
          by_cases e : j = i
          · rw [e]
            exact z
          · exact hok j (by omega), s2⟩
        by_cases h0 : i = 0
        · subst h0
          exact ⟨_, rfl, _, _, rfl, rfl, false, congrArg V.bl (decide_eq_false (by omega)), iteF (iteF (nx ⟨h1, fun z => absurd z (Nat.lt_irrefl _)⟩))⟩
        have e3 : ((i : Nat) : Int) - 1 = ((i - 1 : Nat) : Int) := by omega
        have hb := (hok (i - 1) (by omega)).1
        have eb : r.getD (i - 1) 0 = (((r.getD (i - 1) 0).toNat : Nat) : Int) := by omega
        have ei : r.getD i 0 = (((r.getD i 0).toNat : Nat) : Int) := by omega
        refine ⟨_, rfl, _, _, rfl, rfl, true, congrArg V.bl (decide_eq_true (by omega)), iteT ?_⟩
        refine ⟨_, rfl, x, dx, _, rfl, hx, wf_meth _ _ _ _ (by decide +kernel), _, rfl, _, rfl, _, rfl, _, _, rfl, rfl, a, _, _, _, rfl, rfl, s2.seq hS, by rw [e3]; exact atI_nat (at_r (show i - 1 < r.length by omega)), x, n, ps, (r.getD i 0).toNat, (r.getD (i - 1) 0).toNat, args2 h1.1 hb.1, W2, by omega, by omega, ?_⟩
        by_cases h2 : (ps.getD (r.getD i 0).toNat (0, 0)).1 = (ps.getD (r.getD (i - 1) 0).toNat (0, 0)).2
        · exact ⟨true, congrArg V.bl (decide_eq_true h2), iteF (nx ⟨h1, fun _ => h2⟩)⟩
        · exact ⟨false, congrArg V.bl (decide_eq_false h2), iteT ⟨_, rfl, k _ i s2 (by omega) hok fun _ z => h2 (z.2 (by omega))⟩⟩
      · rintro σ H' ⟨⟨v2, v3, rfl⟩, hok, s'⟩
        rw [lr] at hok
        refine ⟨_, rfl, a, _, rfl, .inl (s'.seq hS), ?_⟩
        rw [lr]
        exact k _ r.length s' (Nat.le_refl _) hok fun z => absurd z (Nat.lt_irrefl _)
    · refine ⟨_, (pss_cons (ps_for PassesOwn.never rfl (pi_enT (by rfl) mEnum (pa_cons (pv 1) pa_nil)) (pg_tup rfl (pgs_cons (pg_name (i := 2) scWrongPl.nd rfl (Or.inl rfl)) (pgs_cons (pg_name (i := 3) scWrongPl.nd rfl (Or.inl rfl)) pgs_nil)))
         (pss_cons (ps_if (pt_not (pt_val (pe_meth (pv 0) T.cl mH GH hr bH .nil pass0 (pa_cons (pv 3) pa_nil))))
         (pss_one (ps_ret (pv 2)))
         pss_nil)
         (pss_one (ps_if (PW.pt (pw_and (pt_cmpR op_gt (pv 2) pe_int (nomark _)) (pw_and1 (pt_not (pt_val (pe_meth (pv 0) T.cl mF GF hr bF .nil pass0 (pa_cons (pv 3) (pa_cons (pe_ix ix_tup (pv 1) (pe_op op_sub (pv 2) pe_int) (fun _ _ => rfl)) pa_nil))))))))
         (pss_one (ps_ret (pv 2)))
         pss_nil))))
         (pss_one (ps_ret (pe_callB call_len_seq (by rfl) mLen PySem.boot_len (pa_cons (pv 1) pa_nil))))), ?_⟩
      refine ⟨_, rfl, a, _, rfl, hS, for_it (walk_enT (K := K) (a := a) (xs := r.map V.int)) (fun i σ H' => (∃ v2 v3 : Option V, σ = [some (.ref x), some (.ref a), v2, v3]) ∧ (∀ j, j < i → okAt ps r j) ∧ Same H H') ⟨⟨none, none, rfl⟩, fun j hj => absurd hj (Nat.not_lt_zero _), Same.refl H⟩ (fun i σ H' _ ⟨_, _, s'⟩ => sqT_kp (Same.kp s') hS) ?_ ?_⟩
      · rintro i y σ H' H2 hi ⟨⟨v2, v3, rfl⟩, hok, s'⟩ ⟨Tt, x1, x2, rfl, hT, rfl, e1, e2⟩
        have e1 : V.int (i : Nat) = x1 := Option.some.inj e1
        subst e1
        have hi' : i < r.length := by omega
        have e2 : (r.map V.int)[i]? = some x2 := e2
        rw [at_r hi'] at e2
        have e2 := Option.some.inj e2
        subst e2
        have s2 : Same H (upd H' Tt (.tup [.int (i : Nat), .int (r.getD i 0)])) := same_new s' hT
        generalize hH3 : upd H' Tt (.tup [.int (i : Nat), .int (r.getD i 0)]) = H3 at s2
        have hT3 : H3 Tt = some (.tup [.int (i : Nat), .int (r.getD i 0)]) := by rw [← hH3]; exact upd_same
        have W2 := W.sameW s2
        obtain ⟨dx, q, lv, en, as, ls, es, hx, hq, hP, _⟩ := id W2
        refine ⟨Tt, _, rfl, SqT.of hT3, rfl, _, _, rfl, _, _, rfl, rfl, ?_⟩
        by_cases h1 : 0 ≤ r.getD i 0 ∧ r.getD i 0 < ps.length
        case neg =>
          refine ⟨_, rfl, x, dx, _, rfl, hx, wf_meth _ _ _ _ (by decide +kernel), _, rfl, x, n, ps, _, rfl, W2, false, congrArg V.bl (decide_eq_false h1), iteT ⟨_, rfl, k _ i s2 (by omega) hok fun _ z => h1 z.1⟩⟩
        refine ⟨_, rfl, x, dx, _, rfl, hx, wf_meth _ _ _ _ (by decide +kernel), _, rfl, x, n, ps, _, rfl, W2, true, congrArg V.bl (decide_eq_true h1), iteF ?_⟩
        have nx : okAt ps r i → (∃ v2 v3 : Option V, [some (V.ref x), some (.ref a), some (.int (i : Nat)), some (.int (r.getD i 0))] = [some (.ref x), some (.ref a), v2, v3]) ∧ (∀ j, j < i + 1 → okAt ps r j) ∧ Same H H3 := fun z => ⟨⟨_, _, rfl⟩, fun j hj => by
          by_cases e : j = i
          · rw [e]
            exact z
          · exact hok j (by omega), s2⟩
        by_cases h0 : i = 0
        · subst h0
          exact ⟨_, rfl, _, _, rfl, rfl, false, congrArg V.bl (decide_eq_false (by omega)), iteF (iteF (nx ⟨h1, fun z => absurd z (Nat.lt_irrefl _)⟩))⟩
        have e3 : ((i : Nat) : Int) - 1 = ((i - 1 : Nat) : Int) := by omega
        have hb := (hok (i - 1) (by omega)).1
        have eb : r.getD (i - 1) 0 = (((r.getD (i - 1) 0).toNat : Nat) : Int) := by omega
        have ei : r.getD i 0 = (((r.getD i 0).toNat : Nat) : Int) := by omega
        refine ⟨_, rfl, _, _, rfl, rfl, true, congrArg V.bl (decide_eq_true (by omega)), iteT ?_⟩
        refine ⟨_, rfl, x, dx, _, rfl, hx, wf_meth _ _ _ _ (by decide +kernel), _, rfl, _, rfl, _, rfl, _, _, rfl, rfl, a, _, _, _, rfl, rfl, sqT_kp (Same.kp s2) hS, by rw [e3]; exact atI_nat (at_r (show i - 1 < r.length by omega)), x, n, ps, (r.getD i 0).toNat, (r.getD (i - 1) 0).toNat, args2 h1.1 hb.1, W2, by omega, by omega, ?_⟩
        by_cases h2 : (ps.getD (r.getD i 0).toNat (0, 0)).1 = (ps.getD (r.getD (i - 1) 0).toNat (0, 0)).2
        · exact ⟨true, congrArg V.bl (decide_eq_true h2), iteF (nx ⟨h1, fun _ => h2⟩)⟩
        · exact ⟨false, congrArg V.bl (decide_eq_false h2), iteT ⟨_, rfl, k _ i s2 (by omega) hok fun _ z => h2 (z.2 (by omega))⟩⟩
      · rintro σ H' ⟨⟨v2, v3, rfl⟩, hok, s'⟩
        rw [lr] at hok
        refine ⟨_, rfl, a, _, rfl, .inr (sqT_kp (Same.kp s') hS), ?_⟩
        rw [lr]
        exact k _ r.length s' (Nat.le_refl _) hok fun z => absurd z (Nat.lt_irrefl _)
/-- a list or a tuple of numbers -/
def TL (K : PySem.W.Frag) (H : Hp) (a : Addr) (l : List Nat) : Prop := SqL K H a (nums l) ∨ SqT K H a (nums l)
theorem TL.same {H H' : Hp} (s : Same H H') {a : Addr} {l : List Nat} (h : TL K H a l) : TL K H' a l := by
  rcases h with h | h
  · exact .inl (s.seq h)
  · exact .inr (sqT_kp (Same.kp s) h)
def spNeedWalk (K : PySem.W.Frag) (C : Addr) : Sp := fun vs H Q _ => ∃ (x a b : Addr) (n : Nat) (ps : List (Nat × Nat)) (ah rg : List Nat), vs = [.ref x, .ref a, .ref b] ∧ WebAt C H x n ps ∧ TL K H a ah ∧ TL K H b rg ∧ rg ≠ [] ∧ OkW ps (beat ah rg) ∧ ah.length ≤ 1000 ∧ rg.length ≤ 1000 ∧
  ∀ H' : Hp, Same H H' → Q .non H'
theorem head_getD {l : List Nat} (h : l ≠ []) : l.getD 0 0 = l.headD 0 := by
  cases l with
  | nil => exact absurd rfl h
  | cons a r => rfl
theorem laid_ok {ps : List (Nat × Nat)} {ah rg : List Nat} (hn : rg ≠ []) (h : OkW ps (beat ah rg)) : ∀ j, j < (ah ++ rg).length → okAt ps (intsN (ah ++ rg)) j := by
  obtain ⟨h1, h2, h3⟩ := okW_laid hn h
  intro j hj
  rw [List.length_append] at hj
  refine ⟨by rw [intsN_getD]; exact ⟨by omega, by have := h1 j hj; omega⟩, fun j0 => ?_⟩
  rw [intsN_getD, intsN_getD, Int.toNat_natCast, Int.toNat_natCast]
  have z := h2 (j - 1) (by omega)
  rw [show j - 1 + 1 = j by omega] at z
  exact z.symm
abbrev nNeedWalk : List Str := ["web", "ahead", "ring", "laid", "place"]
theorem scNeedWalk : FnScope nNeedWalk ["web", "ahead", "ring"] (defScope sNeedWalk) := ⟨rfl, rfl, rfl, by decide +kernel, rfl, by decide +kernel, by decide +kernel⟩
theorem ok_needWalk {f fW fF C : Addr} {fd fdW fdF : FuncData} (F : Fun K "need_walk" "need_walk" sNeedWalk f fd) (T : WebC K C) (GW : FnOk P w K mg base CX0 2 fW fdW ["self", "row"] (spWrong K C)) (bW : Binds K fdW ["self", "row"] []) (mW : Meth K C "wrong_place" fW)
    (GF : FnOk P w K mg base CX0 1 fF fdF ["self", "arrow", "ahead"] (spFollows C)) (bF : Binds K fdF ["self", "arrow", "ahead"] []) (mF : Meth K C "follows" fF) (mLen : mg "len" = none) (mList : mg "list" = none) : FnOk P w K mg base CX0 3 f fd ["web", "ahead", "ring"] (spNeedWalk K C) := by
  refine F.ok scNeedWalk (fun vs H Q E h => ?_) (fun cdv A outer s H vs Q E hr h => ?_)
  · obtain ⟨x, a, b, n, ps, ah, rg, rfl, _⟩ := h
    rfl
  · obtain ⟨x, a, b, n, ps, ah, rg, rfl, W, hA, hB, hn, hok, la, lb, k⟩ := h
    have hr1 : Room 1 _ := hr.mono (by decide)
    have hp := List.length_pos_iff.mpr hn
    refine ⟨_, (pss_cons (ps_set (i := 3) scNeedWalk.nd rfl (Or.inl rfl) (pe_op op_cat (pe_callTy call_list_of (by rfl) mList boot_list' (pa_cons (pv 1) pa_nil)) (pe_callTy call_list_of (by rfl) mList boot_list' (pa_cons (pv 2) pa_nil))))
       (pss_cons (ps_set (i := 4) scNeedWalk.nd rfl (Or.inl rfl) (pe_meth (pv 0) T.cl mW GW hr bW .nil pass0 (pa_cons (pv 3) pa_nil)))
       (pss_cons (ps_if (pt_cmpR op_lt (pv 4) (pe_callB call_len_seq (by rfl) mLen PySem.boot_len (pa_cons (pv 3) pa_nil)) (nomark _))
       pss_never
       pss_nil)
       (pss_one (ps_if (PW.pt (pw_or (pt_cmpR op_eq (pe_callB call_len_seq (by rfl) mLen PySem.boot_len (pa_cons (pv 2) pa_nil)) pe_int (nomark _)) (pw_or1 (pt_not (pt_val (pe_meth (pv 0) T.cl mF GF hr1 bF .nil pass0 (pa_cons (pe_ix ix_seq (pv 2) pe_int (fun _ _ => rfl)) (pa_cons (pe_ix ix_seq (pv 2) (pe_un un_neg pe_int) (fun _ _ => rfl)) pa_nil))))))))
       pss_never
       pss_nil))))), ?_⟩
    refine ⟨_, rfl, a, _, rfl, hA, fun l1 h1 => ?_⟩
    have s1 : Same H (upd H l1 (.lst (nums ah))) := same_new (Same.refl H) h1
    refine ⟨_, rfl, b, _, rfl, hB.same s1, fun l2 h2 => ?_⟩
    have s2 := same_new s1 (o := .lst (nums rg)) h2
    refine ⟨l1, l2, _, _, rfl, rfl, (upd_ne (ne_of_none upd_same h2)).trans upd_same, upd_same, by rw [sizeLine_eq, nums_len, nums_len]; omega, fun L hL => ?_⟩
    have ec : nums ah ++ nums rg = (intsN (ah ++ rg)).map V.int := by rw [intsN_map]; unfold nums; rw [List.map_append]
    rw [ec]
    have s3 := same_new s2 (o := .lst ((intsN (ah ++ rg)).map V.int)) hL
    have hL3 : upd (upd (upd H l1 (.lst (nums ah))) l2 (.lst (nums rg))) L (.lst ((intsN (ah ++ rg)).map V.int)) L = some (.lst ((intsN (ah ++ rg)).map V.int)) := upd_same
    generalize upd (upd (upd H l1 (.lst (nums ah))) l2 (.lst (nums rg))) L (.lst ((intsN (ah ++ rg)).map V.int)) = H3 at s3 hL3
    have W3 := W.sameW s3
    obtain ⟨dx, q, lv, en, as, ls, es, hx, hq, hP, _⟩ := id W3
    have all := laid_ok hn hok
    refine ⟨_, rfl, x, dx, _, rfl, hx, wf_meth _ _ _ _ (by decide +kernel), _, rfl, x, L, n, ps, _, rfl, W3, .inl (SqL.of hL3), fun H4 j s4 hj hj1 hj2 => ?_⟩
    rw [intsN_len] at hj hj2
    have ej : j = (ah ++ rg).length := by
      by_cases z : j < (ah ++ rg).length
      · exact absurd (all j z) (hj2 z)
      · omega
    subst ej
    have ll : ((intsN (ah ++ rg)).map V.int).length = (ah ++ rg).length := by rw [List.length_map, intsN_len]
    refine ⟨_, rfl, _, rfl, L, _, rfl, .inl (SqL.of (s4 _ _ hL3)), _, _, rfl, rfl, false, congrArg V.bl (decide_eq_false (by rw [ll]; omega)), iteF ?_⟩
    have W4 := W3.sameW s4
    obtain ⟨dx4, q4, lv4, en4, as4, ls4, es4, hx4, _⟩ := id W4
    have hB4 := (hB.same s3).same s4
    have ln := nums_len rg
    refine ⟨_, rfl, b, _, rfl, hB4, rfl, false, congrArg V.bl (decide_eq_false fun z => ?_), iteF ?_⟩
    · injection z with z
      rw [ln] at z
      omega
    have i0 : ∀ {Q' : VK}, Q' (.int ((rg.headD 0 : Nat) : Int)) H4 → rIx K (.ref b) (.int 0) H4 Q' := fun {Q'} q' => by
      have e : atI (nums rg) 0 = some (.int ((rg.headD 0 : Nat) : Int)) := by
        have z := atI_nat (numsAt (l := rg) (i := 0) hp)
        rw [head_getD hn] at z
        exact z
      rcases hB4 with h | h
      · exact .inl ⟨b, _, 0, _, rfl, rfl, h, e, q'⟩
      · exact .inr (.inl ⟨b, _, 0, _, rfl, rfl, h, e, q'⟩)
    have iL : atI (nums rg) (-1) = some (.int ((rg.getLastD 0 : Nat) : Int)) := by
      obtain ⟨l, y, rfl⟩ : ∃ l y, rg = l ++ [y] := ⟨rg.dropLast, rg.getLast hn, (List.dropLast_concat_getLast hn).symm⟩
      rw [nums_snoc, atI_last, List.getLastD_eq_getLast?, List.getLast?_append]
      rfl
    have i1 : ∀ {Q' : VK}, Q' (.int ((rg.getLastD 0 : Nat) : Int)) H4 → rIx K (.ref b) (.int (-1)) H4 Q' := fun {Q'} q' => by
      rcases hB4 with h | h
      · exact .inl ⟨b, _, (-1), _, rfl, rfl, h, iL, q'⟩
      · exact .inr (.inl ⟨b, _, (-1), _, rfl, rfl, h, iL, q'⟩)
    obtain ⟨g1, g2, g3⟩ := okW_laid hn hok
    have m0 : rg.headD 0 < ps.length := by
      have z := g1 ah.length (by omega)
      rw [List.getD_eq_getElem?_getD, List.getElem?_append_right (Nat.le_refl _), Nat.sub_self, ← List.getD_eq_getElem?_getD, head_getD hn] at z
      exact z
    have m1 : rg.getLastD 0 < ps.length := by
      have z := g1 (ah.length + rg.length - 1) (by omega)
      rw [List.getD_eq_getElem?_getD, List.getElem?_append_right (by omega), show ah.length + rg.length - 1 - ah.length = rg.length - 1 by omega, ← List.getD_eq_getElem?_getD, ← getLastD_at hn] at z
      exact z
    refine ⟨_, rfl, x, dx4, _, rfl, hx4, wf_meth _ _ _ _ (by decide +kernel), _, rfl, i0 ⟨_, rfl, _, rfl, i1 ?_⟩⟩
    exact ⟨x, n, ps, rg.headD 0, rg.getLastD 0, rfl, W4, m0, m1, true, congrArg V.bl (decide_eq_true g3.symm), iteF (k H4 (s3.trans s4))⟩
/-! ### its text -/
def txts (l : List Nat) : List Str := l.map numT
def walkTs (ah rg : List Nat) : List Str := txts ah ++ [("|" : Str)] ++ txts rg
def spWalkText (K : PySem.W.Frag) : Sp := fun vs H Q _ => ∃ (a b : Addr) (ah rg : List Nat), vs = [.ref a, .ref b] ∧ SqT K H a (nums ah) ∧ SqT K H b (nums rg) ∧ (∀ i ∈ ah, i ≤ 500) ∧ (∀ i ∈ rg, i ≤ 500) ∧ ah.length ≤ 1000 ∧ rg.length ≤ 1000 ∧
  ∀ H' : Hp, Same H H' → Q (.str (Txt.join " " (walkTs ah rg))) H'
theorem txts_len : ∀ (l : List Nat), (∀ i ∈ l, i ≤ 500) → ((txts l).map (·.length)).sum ≤ 5 * l.length
  | [], _ => Nat.zero_le _
  | a :: l, h => by
    have z := txts_len l fun i hi => h i (List.mem_cons_of_mem _ hi)
    have y := numT_len a (h a List.mem_cons_self)
    unfold txts at z ⊢
    rw [List.map_cons, List.map_cons, List.sum_cons, List.length_cons]
    omega
theorem walkTs_len (ah rg : List Nat) (h1 : ∀ i ∈ ah, i ≤ 500) (h2 : ∀ i ∈ rg, i ≤ 500) (l1 : ah.length ≤ 1000) (l2 : rg.length ≤ 1000) : ((walkTs ah rg).map (·.length)).sum + (walkTs ah rg).length * (" " : Str).length ≤ 16777216 := by
  have a1 := txts_len ah h1
  have a2 := txts_len rg h2
  have c1 : (" " : Str).length = 1 := by decide +kernel
  have c2 : ("|" : Str).length = 1 := by decide +kernel
  have e1 : (txts ah).length = ah.length := by unfold txts; rw [List.length_map]
  have e2 : (txts rg).length = rg.length := by unfold txts; rw [List.length_map]
  unfold walkTs
  rw [List.map_append, List.map_append, List.sum_append, List.sum_append, List.length_append, List.length_append, e1, e2, c1]
  show _ + (("|" : Str).length + 0) + _ + (ah.length + 1 + rg.length) * 1 ≤ _
  rw [c2]
  omega
abbrev nWalkText : List Str := ["ahead", "ring", "arrow"]
theorem scWalkText : FnScope nWalkText ["ahead", "ring"] (defScope sWalkText) := ⟨rfl, rfl, rfl, by decide +kernel, rfl, by decide +kernel, by decide +kernel⟩
theorem boot_strT : bootBuiltins "str" = some (.type "str") := by decide +kernel
theorem ok_walkText {f : Addr} {fd : FuncData} (F : Fun K "walk_text" "walk_text" sWalkText f fd) (mStr : mg "str" = none) : FnOk P w K mg base CX0 1 f fd ["ahead", "ring"] (spWalkText K) := by
  refine F.ok scWalkText (fun vs H Q E h => ?_) (fun cdv A outer s H vs Q E hr h => ?_)
  · obtain ⟨a, b, ah, rg, rfl, _⟩ := h
    rfl
  · obtain ⟨a, b, ah, rg, rfl, hA, hB, m1, m2, la, lb, k⟩ := h
    refine ⟨_, (pss_one (ps_ret (pe_bm PySem.F.plainAttrs_str PySem.F.slot_str_join PySem.F.type_str_join mt_join pe_str (pa_cons (pe_op op_cat (pe_op op_cat (pe_lc (own := [("arrow", 2)]) (g := (gName 2)) (tt := tYes) rfl scWalkText.nd (pi_tup (pv 0)) (blkOk_by (own := [("arrow", 2)]) (N := nWalkText) (sc := defScope sWalkText) (by decide +kernel)) (fun _ _ _ _ _ => (pg_name (i := 2) scWalkText.nd rfl (Or.inl rfl))) (fun _ _ _ _ _ => pts_nil) (fun _ _ _ _ _ => (pe_callTy call_str_int (by rfl) mStr boot_strT (pa_cons (pv 2) pa_nil)))) (pe_lst (pa_cons pe_str pa_nil))) (pe_lc (own := [("arrow", 2)]) (g := (gName 2)) (tt := tYes) rfl scWalkText.nd (pi_tup (pv 1)) (blkOk_by (own := [("arrow", 2)]) (N := nWalkText) (sc := defScope sWalkText) (by decide +kernel)) (fun _ _ _ _ _ => (pg_name (i := 2) scWalkText.nd rfl (Or.inl rfl))) (fun _ _ _ _ _ => pts_nil) (fun _ _ _ _ _ => (pe_callTy call_str_int (by rfl) mStr boot_strT (pa_cons (pv 2) pa_nil))))) pa_nil)))), ?_⟩
    have ht : ∀ {l : List Nat} {j i : Nat}, l[j]? = some i → (txts (l.take (j + 1))).map V.str = (txts (l.take j)).map V.str ++ [.str (toString ((i : Nat) : Int))] := fun {l j i} h => by
      rw [take_snoc h]
      unfold txts
      rw [List.map_append, List.map_append]
      rfl
    have lt : ∀ (l : List Nat), ((txts l).map V.str).length = l.length := fun l => by unfold txts; rw [List.length_map, List.length_map]
    refine ⟨rfl, _, rfl, a, rfl, ⟨_, hA⟩, fun D1 hD1 => ?_⟩
    refine lc_tup (K := K) (a := a) (xs := nums ah) (fun j H' => H' D1 = some (.lst ((txts (ah.take j)).map V.str)) ∧ Same H H') ⟨upd_same, same_new (Same.refl H) hD1⟩ (fun j H' _ ⟨_, s'⟩ => sqT_kp (Same.kp s') hA) ?_ ?_
    · rintro j y H' hy ⟨hD', s'⟩
      obtain ⟨i, hi, rfl⟩ := nums_get' hy
      have hj : j < ah.length := (List.getElem?_eq_some_iff.mp hi).1
      refine ⟨rfl, _, rfl, _, rfl, small_log i (m1 i (List.mem_of_getElem? hi)), _, hD', ?_, ?_, same_put s' hD1⟩
      · rw [sizeLine_eq, lt, List.length_take]
        omega
      · rw [upd_same, ht hi]
    rintro H1 ⟨h1, s1⟩
    rw [nums_len, List.take_length] at h1
    refine ⟨by show 1 ≤ sizeLine; decide, fun p hp => ?_⟩
    have s2 : Same H1 (upd H1 p (.lst [.str "|"])) := same_new (Same.refl H1) hp
    refine ⟨D1, p, _, _, rfl, rfl, s2 _ _ h1, upd_same, ?_, fun p2 hp2 => ?_⟩
    · rw [sizeLine_eq, lt]
      show _ + 1 ≤ _
      omega
    have s3 := (s1.trans s2).trans (same_new (o := .lst ((txts ah).map V.str ++ [.str "|"])) (Same.refl _) hp2)
    have h3 : upd (upd H1 p (.lst [.str "|"])) p2 (.lst ((txts ah).map V.str ++ [.str "|"])) p2 = some (.lst ((txts ah).map V.str ++ [.str "|"])) := upd_same
    generalize upd (upd H1 p (.lst [.str "|"])) p2 (.lst ((txts ah).map V.str ++ [.str "|"])) = H3 at s3 h3
    have hB3 := sqT_kp (Same.kp s3) hB
    refine ⟨_, rfl, b, rfl, ⟨_, hB3⟩, fun D2 hD2 => ?_⟩
    refine lc_tup (K := K) (a := b) (xs := nums rg) (fun j H' => H' D2 = some (.lst ((txts (rg.take j)).map V.str)) ∧ Same H3 H') ⟨upd_same, same_new (Same.refl H3) hD2⟩ (fun j H' _ ⟨_, s'⟩ => sqT_kp (Same.kp s') hB3) ?_ ?_
    · rintro j y H' hy ⟨hD', s'⟩
      obtain ⟨i, hi, rfl⟩ := nums_get' hy
      have hj : j < rg.length := (List.getElem?_eq_some_iff.mp hi).1
      refine ⟨rfl, _, rfl, _, rfl, small_log i (m2 i (List.mem_of_getElem? hi)), _, hD', ?_, ?_, same_put s' hD2⟩
      · rw [sizeLine_eq, lt, List.length_take]
        omega
      · rw [upd_same, ht hi]
    rintro H4 ⟨h4, s4⟩
    rw [nums_len, List.take_length] at h4
    refine ⟨p2, D2, _, _, rfl, rfl, s4 _ _ h3, h4, ?_, fun p5 hp5 => ?_⟩
    · rw [sizeLine_eq, List.length_append, lt, lt]
      show _ + 1 + _ ≤ _
      omega
    refine ⟨" ", p5, walkTs ah rg, rfl, rfl, .inl (SqL.of ?_), walkTs_len ah rg m1 m2 la lb, k _ ((s3.trans s4).trans (same_new (Same.refl _) hp5))⟩
    rw [upd_same]
    unfold walkTs
    rw [List.map_append, List.map_append]
    rfl
end
end KW


set_option Elab.async false
set_option maxRecDepth 100000
set_option maxHeartbeats 2000000
/-! The program's walkers: a Walker is made, and what is asked of one. -/
namespace KW
open PySem PySem.Spec PyProof.Rows L2
abbrev sWkClass : Stmt := topS 17
abbrev sWkInit : Stmt := inClass sWkClass 0
abbrev sWkEq : Stmt := inClass sWkClass 1
abbrev sWkRepr : Stmt := inClass sWkClass 2
abbrev sWkWeb : Stmt := inClass sWkClass 3
abbrev sWkAhead : Stmt := inClass sWkClass 4
abbrev sWkRing : Stmt := inClass sWkClass 5
abbrev sWkArrow : Stmt := inClass sWkClass 6
abbrev sWkFirst : Stmt := inClass sWkClass 7
structure WkC (K : PySem.W.Frag) (C : Addr) : Prop where
  cl : Cls K C
  nH : NoAttr K C "home"
  nA : NoAttr K C "lead"
  nR : NoAttr K C "loop"
def kf (x a1 a2 : Addr) : List (Str × V) := putF "loop" (.ref a2) (putF "lead" (.ref a1) (putF "home" (.ref x) []))
theorem kf_loop (x a1 a2 : Addr) : (kf x a1 a2).lookup ("loop" : Str) = some (.ref a2) := by
  unfold kf
  rw [lookup_putF, if_pos rfl]
theorem kf_lead (x a1 a2 : Addr) : (kf x a1 a2).lookup ("lead" : Str) = some (.ref a1) := by
  unfold kf
  rw [lookup_putF, if_neg (by decide +kernel), lookup_putF, if_pos rfl]
theorem kf_home (x a1 a2 : Addr) : (kf x a1 a2).lookup ("home" : Str) = some (.ref x) := by
  unfold kf
  rw [lookup_putF, if_neg (by decide +kernel), lookup_putF, if_neg (by decide +kernel), lookup_putF, if_pos rfl]
theorem kf_meth (x a1 a2 : Addr) {m : Str} (h : (decide (m = "loop") || decide (m = "lead") || decide (m = "home")) = false) : (kf x a1 a2).lookup m = none := by
  simp only [Bool.or_eq_false_iff, decide_eq_false_iff_not] at h
  unfold kf
  rw [lookup_putF, if_neg h.1.1, lookup_putF, if_neg h.1.2, lookup_putF, if_neg h.2]
  rfl
/-- a walker at z: in its least form -/
def WkAt (K : PySem.W.Frag) (C CW : Addr) (H : Hp) (z : Addr) (n : Nat) (ps : List (Nat × Nat)) (ah rg : List Nat) : Prop := ∃ (dz x a1 a2 : Addr), H z = some (.ins CW dz (kf x a1 a2)) ∧ WebAt C H x n ps ∧ SqT K H a1 (nums ah) ∧ SqT K H a2 (nums rg) ∧ Red ah rg ∧ OkW ps (beat ah rg) ∧ ah.length ≤ 1000 ∧ rg.length ≤ 1000
/-- all but lists stays -/
def Ns (H H' : Hp) : Prop := ∀ a o, (∀ xs, o ≠ .lst xs) → H a = some o → H' a = some o
theorem Ns.kp {H H' : Hp} (m : Ns H H') : Kp H H' := fun a o f e => m a o (fun _ => f.ne) e
theorem Ns.same {H H' : Hp} (s : Same H H') : Ns H H' := fun a o _ h => s a o h
theorem Ns.grow {b : Addr} {H H' : Hp} {xs : List V} (hb : H b = some (.lst xs)) (g : Grow b H H') : Ns H H' := fun a o h e => g a o (ne_of e hb (h xs)) e
theorem Ns.put {p : Addr} {H : Hp} {xs : List V} {o : HO} (hp : H p = some (.lst xs)) : Ns H (upd H p o) := fun a u h e => by
  rw [upd_ne (ne_of e hp (h xs))]
  exact e
theorem Ns.trans {H H1 H2 : Hp} (m : Ns H H1) (m' : Ns H1 H2) : Ns H H2 := fun a o h e => m' a o h (m a o h e)
theorem webAt_ns {C : Addr} {H H' : Hp} {x : Addr} {n : Nat} {ps : List (Nat × Nat)} (m : Ns H H') (h : WebAt C H x n ps) : WebAt C H' x n ps := by
  obtain ⟨dx, q, lv, en, as, ls, es, h1, h2⟩ := id h
  exact h.to m.kp ((m _ _ (fun _ => by intro z; cases z) h1).trans h1.symm)
theorem WkAt.ns {K : PySem.W.Frag} {C CW : Addr} {H H' : Hp} {z : Addr} {n : Nat} {ps : List (Nat × Nat)} {ah rg : List Nat} (m : Ns H H') (h : WkAt K C CW H z n ps ah rg) : WkAt K C CW H' z n ps ah rg := by
  obtain ⟨dz, x, a1, a2, h1, h2, h3, h4, h5⟩ := h
  exact ⟨dz, x, a1, a2, m _ _ (fun _ => by intro z; cases z) h1, webAt_ns m h2, sqT_kp m.kp h3, sqT_kp m.kp h4, h5⟩
theorem WkAt.same {K : PySem.W.Frag} {C CW : Addr} {H H' : Hp} {z : Addr} {n : Nat} {ps : List (Nat × Nat)} {ah rg : List Nat} (s : Same H H') (h : WkAt K C CW H z n ps ah rg) : WkAt K C CW H' z n ps ah rg := h.ns (.same s)
theorem red_lt {ps : List (Nat × Nat)} {ah rg : List Nat} (h : OkW ps (beat ah rg)) : (∀ i ∈ ah, i < ps.length) ∧ (∀ i ∈ rg, i < ps.length) := by
  refine ⟨fun i hi => ?_, fun i hi => ?_⟩
  · obtain ⟨j, hj, rfl⟩ := List.getElem_of_mem hi
    have z := (h j).1
    rw [beat_lt hj, List.getD_eq_getElem?_getD, List.getElem?_eq_getElem hj] at z
    exact z
  · obtain ⟨j, hj, rfl⟩ := List.getElem_of_mem hi
    have z := (h (ah.length + j)).1
    rw [beat_ge (by omega), show ah.length + j - ah.length = j by omega, Nat.mod_eq_of_lt hj, List.getD_eq_getElem?_getD, List.getElem?_eq_getElem hj] at z
    exact z
structure WkQ (K : PySem.W.Frag) (C : Addr) : Prop where
  ha : PySem.W.findIn K (.ref C) "__class__" = some (some (.builtin "object.__class__"))
  hn : PySem.W.specialIn K (.builtin "object.__class__") "__get__" = some (some (.builtin "getset_descriptor.__get__"))
  ht : PySem.W.takesIn K (.builtin "object.__class__") = some true
  hm : PySem.W.mroIn K C (.type "object") = some true
  kO : PySem.W.kitOne K (.ref C) (.ref C) = some true
  kT : PySem.W.kitOne K (.type "tuple") (.ref C) = some false
/-! ### promises -/
def spWkInit (K : PySem.W.Frag) (C CW : Addr) : Sp := fun vs H Q _ => ∃ (z dz x a b : Addr) (n : Nat) (ps : List (Nat × Nat)) (ah rg : List Nat), vs = [.ref z, .ref x, .ref a, .ref b] ∧ H z = some (.ins CW dz []) ∧ WebAt C H x n ps ∧ TL K H a ah ∧ TL K H b rg ∧ rg ≠ [] ∧ OkW ps (beat ah rg) ∧ ah.length ≤ 1000 ∧ rg.length ≤ 1000 ∧
  ∀ (H' : Hp) (ah' rg' : List Nat), WkAt K C CW H' z n ps ah' rg' → (∀ i, beat ah' rg' i = beat ah rg i) → ah'.length ≤ ah.length → rg'.length ≤ rg.length → (∀ c o, c ≠ z → H c = some o → H' c = some o) → Q .non H'
def spWkWeb (K : PySem.W.Frag) (C CW : Addr) : Sp := fun vs H Q _ => ∃ (z : Addr) (n : Nat) (ps : List (Nat × Nat)) (ah rg : List Nat), vs = [.ref z] ∧ WkAt K C CW H z n ps ah rg ∧ ∀ x, WebAt C H x n ps → Q (.ref x) H
def spWkAhead (K : PySem.W.Frag) (C CW : Addr) : Sp := fun vs H Q _ => ∃ (z : Addr) (n : Nat) (ps : List (Nat × Nat)) (ah rg : List Nat), vs = [.ref z] ∧ WkAt K C CW H z n ps ah rg ∧ ∀ (H' : Hp) (l : Addr), Same H H' → H l = none → H' l = some (.lst (nums ah)) → Q (.ref l) H'
def spWkRing (K : PySem.W.Frag) (C CW : Addr) : Sp := fun vs H Q _ => ∃ (z : Addr) (n : Nat) (ps : List (Nat × Nat)) (ah rg : List Nat), vs = [.ref z] ∧ WkAt K C CW H z n ps ah rg ∧ ∀ (H' : Hp) (l : Addr), Same H H' → H l = none → H' l = some (.lst (nums rg)) → Q (.ref l) H'
def spWkArrow (K : PySem.W.Frag) (C CW : Addr) : Sp := fun vs H Q _ => ∃ (z : Addr) (n : Nat) (ps : List (Nat × Nat)) (ah rg : List Nat) (b : Nat), vs = [.ref z, .int b] ∧ WkAt K C CW H z n ps ah rg ∧ Q (.int ((beat ah rg b : Nat) : Int)) H
def spWkFirst (K : PySem.W.Frag) (C CW : Addr) : Sp := fun vs H Q _ => ∃ (z : Addr) (n : Nat) (ps : List (Nat × Nat)) (ah rg : List Nat) (m : Nat), vs = [.ref z, .int m] ∧ WkAt K C CW H z n ps ah rg ∧ m ≤ 600 ∧ ∀ (H' : Hp) (l : Addr), Same H H' → H l = none → H' l = some (.lst (nums ((List.range m).map (beat ah rg)))) → Q (.ref l) H'
def wkTxt (ah rg : List Nat) : Str := Str.empty ++ "Walker(" ++ Txt.join " " (walkTs ah rg) ++ ")"
def spWkRepr (K : PySem.W.Frag) (C CW : Addr) : Sp := fun vs H Q _ => ∃ (z : Addr) (n : Nat) (ps : List (Nat × Nat)) (ah rg : List Nat), vs = [.ref z] ∧ WkAt K C CW H z n ps ah rg ∧ ps.length ≤ 500 ∧ (Txt.join " " (walkTs ah rg)).length + 8 ≤ sizeLine ∧ ∀ H', Same H H' → Q (.str (wkTxt ah rg)) H'
def spWkEq (K : PySem.W.Frag) (C CW : Addr) : Sp := fun vs H Q _ => ∃ (z y : Addr) (n : Nat) (ps : List (Nat × Nat)) (ah rg : List Nat), vs = [.ref z, .ref y] ∧ WkAt K C CW H z n ps ah rg ∧
  ((∃ (m : Nat) (qs : List (Nat × Nat)) (bh sg : List Nat), WkAt K C CW H y m qs bh sg ∧ Q (.bl (decide ((n = m ∧ ps = qs) ∧ ah = bh ∧ rg = sg))) H) ∨ (∃ ys, SqT K H y ys ∧ Q (.bl false) H))
theorem tl_tuple {K : PySem.W.Frag} {σ : L2.St} {H : Hp} {a : Addr} {l : List Nat} (h : TL K H a l) {Q : VK} (q : ∀ (H' : Hp) (p : Addr), Same H H' → SqT K H' p (nums l) → Q (.ref p) H') : tNil σ H fun xs H2 => rTupleOf K (V.ref a :: xs) H2 Q := by
  show rTupleOf K [V.ref a] H Q
  rcases h with h | h
  · exact ⟨a, _, rfl, .inl ⟨h, fun p hp => q _ p (same_new (Same.refl H) hp) (SqT.of upd_same)⟩⟩
  · exact ⟨a, _, rfl, .inr ⟨h, q _ a (Same.refl H) h⟩⟩
theorem ty_tupW {K : PySem.W.Frag} {H : Hp} {a : Addr} {xs : List V} (h : SqT K H a xs) : TyX K H (.ref a) (.type "tuple") := by
  rcases h with (h | ⟨o, h⟩) | ⟨o, its, n, h1, h2, _⟩
  · exact .base (.tup h)
  · exact .fTuple h
  · exact .kTuple h1 h2
section
variable {P : Program} {w : World} {K : PySem.W.Frag} {mg : Str → Option Value} {base : Heap}
abbrev nWkInit : List Str := ["self", "web", "ahead", "ring", "lead", "loop"]
theorem scWkInit : FnScope nWkInit ["self", "web", "ahead", "ring"] (defScope sWkInit) := ⟨rfl, rfl, rfl, by decide +kernel, rfl, by decide +kernel, by decide +kernel⟩
theorem ok_wkInit {f fN fL C CW : Addr} {fd fdN fdL : FuncData} (F : Fun K "__init__" "Walker.__init__" sWkInit f fd) (TW : WkC K CW)
    (GN : FnOk P w K mg base CX0 3 fN fdN ["web", "ahead", "ring"] (spNeedWalk K C)) (bN : Binds K fdN ["web", "ahead", "ring"] []) (mN : mg "need_walk" = some (.ref fN)) (kN : PySem.W.keepIn K (.ref fN) = true)
    (GL : FnOk P w K mg base CX0 2 fL fdL ["ahead", "ring"] (spLeastWalk K)) (bL : Binds K fdL ["ahead", "ring"] []) (mL : mg "least_walk" = some (.ref fL)) (kL : PySem.W.keepIn K (.ref fL) = true)
    (mTuple : mg "tuple" = none) : FnOk P w K mg base CX0 4 f fd ["self", "web", "ahead", "ring"] (spWkInit K C CW) := by
  refine F.ok scWkInit (fun vs H Q E h => ?_) (fun cdv A outer s H vs Q E hr h => ?_)
  · obtain ⟨z, dz, x, a, b, n, ps, ah, rg, rfl, _⟩ := h
    rfl
  · obtain ⟨z, dz, x, a, b, n, ps, ah, rg, rfl, hz, W, hA, hB, hn, hok, la, lb, k⟩ := h
    have hr2 : Room 2 _ := hr.mono (by decide)
    refine ⟨_, (pss_cons (ps_expr (pe_call GN hr rfl mN kN bN .nil pass0 (pa_cons (pv 1) (pa_cons (pv 2) (pa_cons (pv 3) pa_nil)))))
       (pss_cons (ps_asg (pe_call GL hr2 rfl mL kL bL .nil pass0 (pa_cons (pe_callTy (call_tupleK (K := K) rfl) (by rfl) mTuple boot_tuple' (pa_cons (pv 2) pa_nil)) (pa_cons (pe_callTy (call_tupleK (K := K) rfl) (by rfl) mTuple boot_tuple' (pa_cons (pv 3) pa_nil)) pa_nil))) (pg_tup rfl (pgs_cons (pg_name (i := 4) scWkInit.nd rfl (Or.inl rfl)) (pgs_cons (pg_name (i := 5) scWkInit.nd rfl (Or.inl rfl)) pgs_nil))))
       (pss_cons (ps_fld (pv 0) (pv 1) rfl)
       (pss_cons (ps_fld (pv 0) (pv 4) rfl)
       (pss_one (ps_fld (pv 0) (pv 5) rfl)))))), ?_⟩
    refine ⟨_, rfl, _, rfl, _, rfl, x, a, b, n, ps, ah, rg, rfl, W, hA, hB, hn, hok, la, lb, fun H1 s1 => ?_⟩
    refine ⟨.ref a, rfl, ?_⟩
    refine tl_tuple (hA.same s1) fun H2 p1 s2 h2 => ?_
    refine ⟨.ref b, rfl, ?_⟩
    refine tl_tuple ((hB.same s1).same s2) fun H3 p2 s3 h3 => ?_
    refine ⟨p1, p2, ah, rg, rfl, sqT_kp (Same.kp s3) h2, h3, hn, la, lb, fun H4 u q1 q2 ah' rg' s4 hu hq1 hq2 hred hbt l1 l2 => ?_⟩
    have s0 : Same H H4 := s1.trans (s2.trans (s3.trans s4))
    have hz4 := s0 _ _ hz
    have W4 := W.sameW s0
    refine ⟨u, _, rfl, SqT.of hu, rfl, _, _, rfl, _, _, rfl, rfl, ?_⟩
    refine ⟨_, rfl, _, rfl, z, CW, dz, [], rfl, hz4, TW.cl, TW.nH, (by show 0 < 1000; decide), ?_⟩
    refine ⟨_, rfl, _, rfl, z, CW, dz, _, rfl, upd_same, TW.cl, TW.nA, Nat.lt_of_lt_of_le (putF_lt (k := 1) (by simp)) (by decide), ?_⟩
    refine ⟨_, rfl, _, rfl, z, CW, dz, _, rfl, upd_same, TW.cl, TW.nR, Nat.lt_of_lt_of_le (putF_lt (putF_lt (k := 1) (by simp))) (by decide), ?_⟩
    rw [upd_upd, upd_upd]
    obtain ⟨dx, q, lv, en, as, ls, es, hx, hrest⟩ := id W4
    have nxz : x ≠ z := fun e => by
      rw [e, hz4] at hx
      injection hx with hx
      injection hx with _ _ hx
      unfold wf at hx
      have := congrArg (fun l => List.lookup ("entering" : Str) l) hx
      rw [show List.lookup ("entering" : Str) (putF "entering" (V.ref en) _) = some (.ref en) from by rw [lookup_putF, if_pos rfl]] at this
      cases this
    have kz : Kp H4 (upd H4 z (.ins CW dz (kf x q1 q2))) := fun c o f e => by
      rw [upd_ne (ne_of e hz4 (by intro y; subst y; exact f))]
      exact e
    have hok' : OkW ps (beat ah' rg') := hok.to fun i => (hbt i).symm
    exact k _ ah' rg' ⟨dz, x, q1, q2, upd_same, W4.to kz (upd_ne nxz), sqT_kp kz hq1, sqT_kp kz hq2, hred, hok', by omega, by omega⟩ hbt l1 l2 fun c o nc h => by
      rw [upd_ne nc]
      exact s0 c o h
theorem scWkWeb : FnScope ["self"] ["self"] (defScope sWkWeb) := ⟨rfl, rfl, rfl, by decide +kernel, rfl, by decide +kernel, by decide +kernel⟩
theorem ok_wkWeb {f C CW : Addr} {fd : FuncData} (F : Fun K "web" "Walker.web" sWkWeb f fd) (TW : WkC K CW) : FnOk P w K mg base CX0 1 f fd ["self"] (spWkWeb K C CW) := by
  refine F.ok scWkWeb (fun vs H Q E h => ?_) (fun cdv A outer s H vs Q E hr h => ?_)
  · obtain ⟨z, n, ps, ah, rg, rfl, _⟩ := h
    rfl
  · obtain ⟨z, n, ps, ah, rg, rfl, ⟨dz, x, a1, a2, hz, hW, _⟩, k⟩ := h
    exact ⟨_, (pss_one (ps_ret (pe_fld (pv 0) rfl))), _, rfl, z, CW, dz, _, _, rfl, hz, TW.cl, TW.nH, kf_home _ _ _, k x hW⟩
theorem scWkAhead : FnScope ["self"] ["self"] (defScope sWkAhead) := ⟨rfl, rfl, rfl, by decide +kernel, rfl, by decide +kernel, by decide +kernel⟩
theorem ok_wkAhead {f C CW : Addr} {fd : FuncData} (F : Fun K "ahead" "Walker.ahead" sWkAhead f fd) (TW : WkC K CW) (mList : mg "list" = none) : FnOk P w K mg base CX0 1 f fd ["self"] (spWkAhead K C CW) := by
  refine F.ok scWkAhead (fun vs H Q E h => ?_) (fun cdv A outer s H vs Q E hr h => ?_)
  · obtain ⟨z, n, ps, ah, rg, rfl, _⟩ := h
    rfl
  · obtain ⟨z, n, ps, ah, rg, rfl, ⟨dz, x, a1, a2, hz, hW, h1, h2, _⟩, k⟩ := h
    exact ⟨_, (pss_one (ps_ret (pe_callTy call_list_of (by rfl) mList boot_list' (pa_cons (pe_fld (pv 0) rfl) pa_nil)))), _, rfl, z, CW, dz, _, _, rfl, hz, TW.cl, TW.nA, kf_lead _ _ _, a1, _, rfl, .inr h1, fun l hl => k _ l (same_new (Same.refl H) hl) hl upd_same⟩
theorem scWkRing : FnScope ["self"] ["self"] (defScope sWkRing) := ⟨rfl, rfl, rfl, by decide +kernel, rfl, by decide +kernel, by decide +kernel⟩
theorem ok_wkRing {f C CW : Addr} {fd : FuncData} (F : Fun K "ring" "Walker.ring" sWkRing f fd) (TW : WkC K CW) (mList : mg "list" = none) : FnOk P w K mg base CX0 1 f fd ["self"] (spWkRing K C CW) := by
  refine F.ok scWkRing (fun vs H Q E h => ?_) (fun cdv A outer s H vs Q E hr h => ?_)
  · obtain ⟨z, n, ps, ah, rg, rfl, _⟩ := h
    rfl
  · obtain ⟨z, n, ps, ah, rg, rfl, ⟨dz, x, a1, a2, hz, hW, h1, h2, _⟩, k⟩ := h
    exact ⟨_, (pss_one (ps_ret (pe_callTy call_list_of (by rfl) mList boot_list' (pa_cons (pe_fld (pv 0) rfl) pa_nil)))), _, rfl, z, CW, dz, _, _, rfl, hz, TW.cl, TW.nR, kf_loop _ _ _, a2, _, rfl, .inr h2, fun l hl => k _ l (same_new (Same.refl H) hl) hl upd_same⟩
abbrev nWkArrow : List Str := ["self", "beat"]
theorem scWkArrow : FnScope nWkArrow ["self", "beat"] (defScope sWkArrow) := ⟨rfl, rfl, rfl, by decide +kernel, rfl, by decide +kernel, by decide +kernel⟩
theorem ok_wkArrow {f C CW : Addr} {fd : FuncData} (F : Fun K "arrow" "Walker.arrow" sWkArrow f fd) (TW : WkC K CW) (mLen : mg "len" = none) : FnOk P w K mg base CX0 1 f fd ["self", "beat"] (spWkArrow K C CW) := by
  refine F.ok scWkArrow (fun vs H Q E h => ?_) (fun cdv A outer s H vs Q E hr h => ?_)
  · obtain ⟨z, n, ps, ah, rg, b, rfl, _⟩ := h
    rfl
  · obtain ⟨z, n, ps, ah, rg, b, rfl, ⟨dz, x, a1, a2, hz, hW, h1, h2, hred, _⟩, k⟩ := h
    have la := nums_len ah
    have lr := nums_len rg
    have hp := List.length_pos_iff.mpr hred.ne
    refine ⟨_, (pss_cons (ps_if (pt_cmpR op_lt (pv 1) pe_int (nomark _))
       pss_never
       pss_nil)
       (pss_cons (ps_if (pt_cmpR op_lt (pv 1) (pe_callB call_len_seq (by rfl) mLen PySem.boot_len (pa_cons (pe_fld (pv 0) rfl) pa_nil)) (nomark _))
       (pss_one (ps_ret (pe_ix ix_tup (pe_fld (pv 0) rfl) (pv 1) (fun _ _ => rfl))))
       pss_nil)
       (pss_one (ps_ret (pe_ix ix_tup (pe_fld (pv 0) rfl) (pe_op op_mod (pe_op op_sub (pv 1) (pe_callB call_len_seq (by rfl) mLen PySem.boot_len (pa_cons (pe_fld (pv 0) rfl) pa_nil))) (pe_callB call_len_seq (by rfl) mLen PySem.boot_len (pa_cons (pe_fld (pv 0) rfl) pa_nil))) (fun _ _ => rfl)))))), ?_⟩
    refine ⟨_, rfl, _, _, rfl, rfl, false, congrArg V.bl (decide_eq_false (by omega)), iteF ?_⟩
    refine ⟨_, rfl, _, rfl, z, CW, dz, _, _, rfl, hz, TW.cl, TW.nA, kf_lead _ _ _, a1, _, rfl, .inr h1, _, _, rfl, rfl, ?_⟩
    by_cases hb : b < ah.length
    · refine ⟨true, congrArg V.bl (decide_eq_true (by rw [la]; omega)), iteT ?_⟩
      refine ⟨_, rfl, z, CW, dz, _, _, rfl, hz, TW.cl, TW.nA, kf_lead _ _ _, _, rfl, a1, _, _, _, rfl, rfl, h1, atI_nat (numsAt hb), ?_⟩
      rw [beat_lt hb] at k
      exact k
    · refine ⟨false, congrArg V.bl (decide_eq_false (by rw [la]; omega)), iteF ?_⟩
      have e : ((b : Int) - (((nums ah).length : Nat) : Int)) % (((nums rg).length : Nat) : Int) = (((b - ah.length) % rg.length : Nat) : Int) := by
        rw [la, lr, show (b : Int) - (ah.length : Int) = ((b - ah.length : Nat) : Int) by omega]
        rfl
      refine ⟨_, rfl, z, CW, dz, _, _, rfl, hz, TW.cl, TW.nR, kf_loop _ _ _, _, rfl, _, rfl, z, CW, dz, _, _, rfl, hz, TW.cl, TW.nA, kf_lead _ _ _, a1, _, rfl, .inr h1, _, _, rfl, rfl, _, rfl, z, CW, dz, _, _, rfl, hz, TW.cl, TW.nR, kf_loop _ _ _, a2, _, rfl, .inr h2, _, _, rfl, rfl, by rw [lr]; omega, a2, _, _, _, rfl, rfl, h2, by rw [e]; exact atI_nat (numsAt (Nat.mod_lt _ hp)), ?_⟩
      rw [beat_ge (by omega)] at k
      exact k
abbrev nWkFirst : List Str := ["self", "many", "beat"]
theorem scWkFirst : FnScope nWkFirst ["self", "many"] (defScope sWkFirst) := ⟨rfl, rfl, rfl, by decide +kernel, rfl, by decide +kernel, by decide +kernel⟩
theorem range_snoc (m : Nat) (s : Nat → Nat) : nums ((List.range (m + 1)).map s) = nums ((List.range m).map s) ++ [.int ((s m : Nat) : Int)] := by
  rw [List.range_succ, List.map_append]
  exact nums_snoc _ _
theorem ok_wkFirst {f fA C CW : Addr} {fd fdA : FuncData} {t1 : Tok} (F : Fun K "first" "Walker.first" sWkFirst f fd) (TW : WkC K CW) (GA : FnOk P w K mg base CX0 1 fA fdA ["self", "beat"] (spWkArrow K C CW)) (bA : Binds K fdA ["self", "beat"] []) (mA : Meth K CW "arrow" fA)
    (m1 : mg "MOST_FIRST" = some (.int 600 t1)) (mRange : mg "range" = none) : FnOk P w K mg base CX0 2 f fd ["self", "many"] (spWkFirst K C CW) := by
  refine F.ok scWkFirst (fun vs H Q E h => ?_) (fun cdv A outer s H vs Q E hr h => ?_)
  · obtain ⟨z, n, ps, ah, rg, m, rfl, _⟩ := h
    rfl
  · obtain ⟨z, n, ps, ah, rg, m, rfl, hZ, hm, k⟩ := h
    refine ⟨_, (pss_cons (ps_if (pt_not (pt_chain op_le op_le pe_int (pv 1) (pe_glob (v := .int 600) rfl m1 ⟨_, rfl⟩)))
       pss_never
       pss_nil)
       (pss_one (ps_ret (pe_lc (own := [("beat", 2)]) (g := (gName 2)) (tt := tYes) rfl scWkFirst.nd (pi_range1 (by rfl) mRange (pa_cons (pv 1) pa_nil)) (blkOk_by (own := [("beat", 2)]) (N := nWkFirst) (sc := defScope sWkFirst) (by decide +kernel)) (fun _ _ _ _ _ => (pg_name (i := 2) scWkFirst.nd rfl (Or.inl rfl))) (fun _ _ _ _ _ => pts_nil) (fun _ _ _ _ _ => (pe_meth (pv 0) TW.cl mA GA hr bA .nil pass0 (pa_cons (pv 2) pa_nil))))))), ?_⟩
    refine ⟨_, rfl, _, _, rfl, rfl, true, congrArg V.bl (decide_eq_true (by omega)), iteT ⟨_, _, rfl, rfl, true, congrArg V.bl (decide_eq_true (by omega)), iteF ?_⟩⟩
    refine ⟨_, rfl, _, rfl, by omega, by omega, fun D hD => ?_⟩
    refine lc_range (lo := 0) (n := m) (fun i H' => H' D = some (.lst (nums ((List.range i).map (beat ah rg)))) ∧ Same H H') ⟨upd_same, same_new (Same.refl H) hD⟩ ?_ ?_
    · rintro i H' hi ⟨hD', s'⟩
      have hZ' := hZ.same s'
      obtain ⟨dz, x, a1, a2, hz, _⟩ := id hZ'
      refine ⟨rfl, _, rfl, z, dz, _, rfl, hz, kf_meth _ _ _ (by decide +kernel), _, rfl, z, n, ps, ah, rg, i, by rw [Int.zero_add]; rfl, hZ', _, hD', ?_, ?_, same_put s' hD⟩
      · rw [sizeLine_eq, nums_len, List.length_map, List.length_range]
        omega
      · rw [upd_same, range_snoc]
    · rintro H' ⟨hD', s'⟩
      exact k H' D s' hD hD'
theorem scWkRepr : FnScope ["self"] ["self"] (defScope sWkRepr) := ⟨rfl, rfl, rfl, by decide +kernel, rfl, by decide +kernel, by decide +kernel⟩
theorem ok_wkRepr {f fX C CW : Addr} {fd fdX : FuncData} (F : Fun K "__repr__" "Walker.__repr__" sWkRepr f fd) (TW : WkC K CW) (GX : FnOk P w K mg base CX0 1 fX fdX ["ahead", "ring"] (spWalkText K)) (bX : Binds K fdX ["ahead", "ring"] []) (mX : mg "walk_text" = some (.ref fX)) (kX : PySem.W.keepIn K (.ref fX) = true) : FnOk P w K mg base CX0 2 f fd ["self"] (spWkRepr K C CW) := by
  refine F.ok scWkRepr (fun vs H Q E h => ?_) (fun cdv A outer s H vs Q E hr h => ?_)
  · obtain ⟨z, n, ps, ah, rg, rfl, _⟩ := h
    rfl
  · obtain ⟨z, n, ps, ah, rg, rfl, ⟨dz, x, a1, a2, hz, hW, h1, h2, hred, hok, la, lr⟩, hps, hsz, k⟩ := h
    obtain ⟨m1, m2⟩ := red_lt hok
    have c0 : Str.empty.length = 0 := by decide +kernel
    have c1 : ("Walker(" : Str).length = 7 := by decide +kernel
    have c2 : (")" : Str).length = 1 := by decide +kernel
    refine ⟨_, (pss_one (ps_ret (pe_joined (.cons pe_str (.cons (pe_fmt (pe_call GX hr rfl mX kX bX .nil pass0 (pa_cons (pe_fld (pv 0) rfl) (pa_cons (pe_fld (pv 0) rfl) pa_nil)))) (.cons pe_str .nil)))))), ?_⟩
    refine ⟨_, rfl, by rw [str_len_append, sizeLine_eq]; omega, _, rfl, z, CW, dz, _, _, rfl, hz, TW.cl, TW.nA, kf_lead _ _ _, _, rfl, z, CW, dz, _, _, rfl, hz, TW.cl, TW.nR, kf_loop _ _ _, a1, a2, ah, rg, rfl, h1, h2, fun i hi => by have := m1 i hi; omega, fun i hi => by have := m2 i hi; omega, la, lr, fun H' s' => .inl ⟨_, rfl, by omega, _, rfl, ?_, _, rfl, ?_, k H' s'⟩⟩
    · rw [str_len_append, str_len_append]
      omega
    · rw [str_len_append, str_len_append, str_len_append]
      omega
theorem scWkEq : FnScope ["self", "other"] ["self", "other"] (defScope sWkEq) := ⟨rfl, rfl, rfl, by decide +kernel, rfl, by decide +kernel, by decide +kernel⟩
theorem ok_wkEq {f fE C CW : Addr} {fd fdE : FuncData} (F : Fun K "__eq__" "Walker.__eq__" sWkEq f fd) (TW : WkC K CW) (TQ : WkQ K CW) (mIsi : mg "isinstance" = none) (mC : mg "Walker" = some (.ref CW))
    (GE : FnOk P w K mg base CX0 1 fE fdE ["self", "other"] (spEq C)) (bE : Binds K fdE ["self", "other"] []) (sE : PySem.W.findIn K (.ref C) "__eq__" = some (some (.ref fE))) (iE : PySem.W.isFn K (.ref fE) = true) : FnOk P w K mg base CX0 2 f fd ["self", "other"] (spWkEq K C CW) := by
  refine F.ok scWkEq (fun vs H Q E h => ?_) (fun cdv A outer s H vs Q E hr h => ?_)
  · obtain ⟨z, y, n, ps, ah, rg, rfl, _⟩ := h
    rfl
  · obtain ⟨z, y, n, ps, ah, rg, rfl, ⟨dz, x, a1, a2, hz, hW, h1, h2, _⟩, k⟩ := h
    refine ⟨_, (pss_one (ps_ret (pe_and (pe_callB call_isi (by rfl) mIsi (by decide +kernel) (pa_cons (pv 1) (pa_cons (pe_glob (v := .ref CW) rfl mC rfl) pa_nil))) (pe_and (pe_cmpR (op_eqO GE hr bE pass0 sE iE) (pe_fld (pv 0) rfl) (pe_fld (pv 1) rfl) (nomark _)) (pe_and (pe_cmpR (op_eqD hr.units) (pe_fld (pv 0) rfl) (pe_fld (pv 1) rfl) (nomark _)) (pe_one (pe_cmpR (op_eqD hr.units) (pe_fld (pv 0) rfl) (pe_fld (pv 1) rfl) (nomark _)))))))), ?_⟩
    rcases k with ⟨m, qs, bh, sg, ⟨dy, x', b1, b2, hy, hW', g1, g2, _⟩, k⟩ | ⟨ys, hy, k⟩
    · refine ⟨_, rfl, .ref y, .ref CW, .ref CW, .ref CW, true, rfl, .own CW, .base (.ins hy TW.cl TQ.ha TQ.hn TQ.ht TQ.hm), TQ.kO, true, rfl, iteT ?_⟩
      obtain ⟨ddx, fsx, hx⟩ : ∃ d f, H x = some (.ins C d f) := by
        obtain ⟨dx, q, lv, en, as, ls, es, hx, _⟩ := hW
        exact ⟨_, _, hx⟩
      obtain ⟨ddy, fsy, hx'⟩ : ∃ d f, H x' = some (.ins C d f) := by
        obtain ⟨dx, q, lv, en, as, ls, es, hx, _⟩ := hW'
        exact ⟨_, _, hx⟩
      refine ⟨_, rfl, z, CW, dz, _, _, rfl, hz, TW.cl, TW.nH, kf_home _ _ _, _, rfl, y, CW, dy, _, _, rfl, hy, TW.cl, TW.nH, kf_home _ _ _, x, x', ddx, _, rfl, rfl, hx, .inl ⟨_, _, hx'⟩, x, x', n, ps, rfl, hW, .inl ⟨m, qs, hW', _, rfl, _, rfl, ?_⟩⟩
      refine ite2 (fun e => ?_) (fun e => ?_)
      · have e := of_decide_eq_true e
        refine ⟨_, rfl, z, CW, dz, _, _, rfl, hz, TW.cl, TW.nA, kf_lead _ _ _, _, rfl, y, CW, dy, _, _, rfl, hy, TW.cl, TW.nA, kf_lead _ _ _, rowD ah, rowD bh, dp_row h1, dp_row g1, row_shaped _, row_shaped _, _, rfl, ?_⟩
        rw [rowD_eqv]
        refine ite2 (fun e2 => ?_) (fun e2 => ?_)
        · have e2 := of_decide_eq_true e2
          refine ⟨_, rfl, z, CW, dz, _, _, rfl, hz, TW.cl, TW.nR, kf_loop _ _ _, _, rfl, y, CW, dy, _, _, rfl, hy, TW.cl, TW.nR, kf_loop _ _ _, rowD rg, rowD sg, dp_row h2, dp_row g2, row_shaped _, row_shaped _, ?_⟩
          rw [rowD_eqv]
          have e3 : decide ((n = m ∧ ps = qs) ∧ ah = bh ∧ rg = sg) = decide (rg = sg) := by simp [e, e2]
          rw [e3] at k
          exact k
        · have e2 : ¬ ah = bh := fun z => e2 (decide_eq_true z)
          have e3 : decide ((n = m ∧ ps = qs) ∧ ah = bh ∧ rg = sg) = false := decide_eq_false fun z => e2 z.2.1
          rw [e3] at k
          exact k
      · have e : ¬ (n = m ∧ ps = qs) := fun z => e (decide_eq_true z)
        have e3 : decide ((n = m ∧ ps = qs) ∧ ah = bh ∧ rg = sg) = false := decide_eq_false fun z => e z.1
        rw [e3] at k
        exact k
    · exact ⟨_, rfl, .ref y, .ref CW, .type "tuple", .ref CW, false, rfl, .own CW, ty_tupW hy, TQ.kT, false, rfl, iteF k⟩
end
end KW


set_option Elab.async false
set_option maxRecDepth 100000
set_option maxHeartbeats 2000000
/-! The law's own: beats, the shortest form, a walker. -/
namespace KW
open PySem PySem.Spec PyProof.Rows L2
abbrev sLBeats : Stmt := topS 37
abbrev sLWalker : Stmt := topS 39
/-! ### mathematics -/
/-- the first m beats -/
def bts (ah rg : List Nat) (m : Nat) : List Nat := (List.range m).map (beat ah rg)
theorem bts_len (ah rg : List Nat) (m : Nat) : (bts ah rg m).length = m := by unfold bts; rw [List.length_map, List.length_range]
theorem bts_getD {ah rg : List Nat} {m i : Nat} (h : i < m) : (bts ah rg m).getD i 0 = beat ah rg i := by
  unfold bts
  rw [List.getD_eq_getElem?_getD, List.getElem?_map, List.getElem?_range h]
  rfl
theorem bts_ahead (ah rg : List Nat) : bts ah rg ah.length = ah := ext_getD (bts_len _ _ _) fun i hi => by
  rw [bts_len] at hi
  rw [bts_getD hi, beat_lt hi]
theorem bts_more {ah rg : List Nat} {k : Nat} (h1 : ah.length ≤ k) (h2 : (k - ah.length) % rg.length = 0) : bts ah rg k ++ rg = bts ah rg (k + rg.length) := by
  refine ext_getD (by rw [List.length_append, bts_len, bts_len]) fun i hi => ?_
  rw [List.length_append, bts_len] at hi
  rw [bts_getD hi, List.getD_eq_getElem?_getD]
  by_cases q : i < k
  · rw [List.getElem?_append_left (by rw [bts_len]; exact q), ← List.getD_eq_getElem?_getD, bts_getD q]
  · rw [List.getElem?_append_right (by rw [bts_len]; omega), bts_len, ← List.getD_eq_getElem?_getD, beat_ge (by omega)]
    congr 1
    have e : i - ah.length = (k - ah.length) + (i - k) := by omega
    rw [e, Nat.add_mod, h2, Nat.zero_add, Nat.mod_mod, Nat.mod_eq_of_lt (by omega)]
theorem bts_take {ah rg : List Nat} {m k : Nat} (h : m ≤ k) : (bts ah rg k).take m = bts ah rg m := by
  unfold bts
  rw [← List.map_take, List.take_range, Nat.min_eq_left h]
theorem back1_prim {r : List Nat} (hn : r ≠ []) (h : Prim r) : Prim (back1 r) := by
  have hp := List.length_pos_iff.mpr hn
  have e := back1_rot (l := r) (c := 0) hp
  rw [rot_zero] at e
  rw [e]
  exact rot_prim (Nat.mod_lt _ hp) h
def rowL (l : List Nat) : PyData := .list (l.map nD)
theorem rowL_eqv (l m : List Nat) : PyData.eqv (rowL l) (rowL m) = decide (l = m) := by
  unfold rowL
  simp only [PyData.eqv, nDs_eqv]
theorem rowL_shaped (l : List Nat) : SeqAt.shaped (rowL l) = true := by
  have h := nums_depth l
  exact shaped_of (by unfold rowL; simp only [PyData.canLay0]; exact nums_lay l) (by unfold rowL; simp only [PyData.depth]; omega)
theorem dp_rowL {K : PySem.W.Frag} {H : Hp} {a : Addr} {l : List Nat} (h : SqL K H a (nums l)) : Dp K H (.ref a) (rowL l) := .lst h (dp_nums l)
theorem sIx_neg {n d : Nat} (h : 0 < n) : HT.sIx n d (some (-1)) = n - 1 := by
  unfold HT.sIx
  simp only
  split
  · omega
  · omega
theorem cut_last {l : List Nat} (h : l ≠ []) : cutV (nums l) (some (-1)) none = nums [l.getLastD 0] := by
  have hp := List.length_pos_iff.mpr h
  rw [cutN, sIx_neg hp]
  show nums (List.take (l.length - (l.length - 1)) (List.drop (l.length - 1) l)) = _
  rw [getLastD_at h, List.drop_eq_getElem_cons (by omega), List.getD_eq_getElem?_getD, List.getElem?_eq_getElem (by omega), show l.length - (l.length - 1) = 1 by omega]
  rfl
theorem cut_init {l : List Nat} (h : l ≠ []) : cutV (nums l) none (some (-1)) = nums l.dropLast := by
  have hp := List.length_pos_iff.mpr h
  rw [cutN, sIx_neg hp]
  show nums (List.take (l.length - 1 - 0) (List.drop 0 l)) = _
  rw [List.drop_zero, Nat.sub_zero, List.dropLast_eq_take]
/-! ### promises -/
def webD (n : Nat) (ps : List (Nat × Nat)) : PyData := .tuple [.int n, .tuple (ps.map pD)]
theorem webD_shaped (n : Nat) (ps : List (Nat × Nat)) : SeqAt.shaped (webD n ps) = true := by
  have h := pD_depth ps
  exact shaped_of (by unfold webD; simp only [PyData.canLay0, PyData.canLayAll0, pD_lay ps]; rfl) (by unfold webD; simp only [PyData.depth, PyData.depthAll]; omega)
theorem webD_eqv (n m : Nat) (ps qs : List (Nat × Nat)) : PyData.eqv (webD n ps) (webD m qs) = decide (n = m ∧ ps = qs) := by
  have e1 : PyData.eqv (PyData.int n) (PyData.int m) = decide (n = m) := nD_eqv n m
  unfold webD
  simp only [PyData.eqv, PyData.eqvAll, pDs_eqv, Bool.and_true] at e1 ⊢
  rw [e1]
  by_cases h1 : n = m
  · simp [h1]
  · simp [h1]
theorem dp_web {K : PySem.W.Frag} {H : Hp} {t n ps} (h : WebT H t n ps) : Dp K H (.ref t) (webD n ps) := by
  obtain ⟨q, as, h1, h2, h3, _⟩ := h
  exact .tup (SqT.of h1) (.cons (.int _) (.cons (.tup h2.sq (dp_pairs h3)) .nil))
def spLTells (K : PySem.W.Frag) (C : Addr) : Sp := fun vs H Q _ => ∃ (x : Addr) (n : Nat) (ps : List (Nat × Nat)), vs = [.ref x] ∧ WebAt C H x n ps ∧ ∀ (H' : Hp) (t : Addr), Same H H' → Dp K H' (.ref t) (webD n ps) → Q (.ref t) H'
/-- a walk told as a pair -/
def WlkAt (K : PySem.W.Frag) (H : Hp) (u : Addr) (ah rg : List Nat) : Prop := ∃ a1 a2, SqT K H u [.ref a1, .ref a2] ∧ TL K H a1 ah ∧ TL K H a2 rg
theorem WlkAt.same {K : PySem.W.Frag} {H H' : Hp} (s : Same H H') {u : Addr} {ah rg : List Nat} (h : WlkAt K H u ah rg) : WlkAt K H' u ah rg := by
  obtain ⟨a1, a2, h1, h2, h3⟩ := h
  exact ⟨a1, a2, sqT_kp (Same.kp s) h1, h2.same s, h3.same s⟩
def spLBeats (K : PySem.W.Frag) : Sp := fun vs H Q _ => ∃ (u : Addr) (m : Nat) (ah rg : List Nat), vs = [.ref u, .int m] ∧ WlkAt K H u ah rg ∧ rg ≠ [] ∧ ah.length ≤ 1000 ∧ rg.length ≤ 1000 ∧ m ≤ 10000 ∧
  ∀ (H' : Hp) (l : Addr), Same H H' → H l = none → H' l = some (.lst (nums (bts ah rg m))) → Q (.ref l) H'
def spLShort (K : PySem.W.Frag) : Sp := fun vs H Q _ => ∃ (a b : Addr) (ah rg : List Nat), vs = [.ref a, .ref b] ∧ TL K H a ah ∧ TL K H b rg ∧ rg ≠ [] ∧ ah.length ≤ 1000 ∧ rg.length ≤ 1000 ∧
  ∀ (H' : Hp) (u p1 p2 : Addr) (ah' rg' : List Nat), Same H H' → H' u = some (.tup [.ref p1, .ref p2]) → H' p1 = some (.lst (nums ah')) → H' p2 = some (.lst (nums rg')) → H p1 = none → H p2 = none → Red ah' rg' → (∀ i, beat ah' rg' i = beat ah rg i) → ah'.length ≤ ah.length → rg'.length ≤ rg.length → Q (.ref u) H'
def spLWalker (K : PySem.W.Frag) (C CW : Addr) : Sp := fun vs H Q _ => ∃ (t u : Addr) (n : Nat) (ps : List (Nat × Nat)) (ah rg : List Nat), vs = [.ref t, .ref u] ∧ WebT H t n ps ∧ n ≤ 100 ∧ ps.length ≤ 400 ∧ WlkAt K H u ah rg ∧ rg ≠ [] ∧ OkW ps (beat ah rg) ∧ ah.length ≤ 1000 ∧ rg.length ≤ 1000 ∧
  ∀ (H' : Hp) (z : Addr) (ah' rg' : List Nat), WkAt K C CW H' z n ps ah' rg' → (∀ i, beat ah' rg' i = beat ah rg i) → ah'.length ≤ ah.length → rg'.length ≤ rg.length → Same H H' → H z = none → Q (.ref z) H'
section
variable {P : Program} {w : World} {K : PySem.W.Frag} {mg : Str → Option Value} {base : Heap}
abbrev nLBeats : List Str := ["_law_walk_here", "_law_many", "_law_ahead", "_law_ring", "_law_found"]
theorem scLBeats : FnScope nLBeats ["_law_walk_here", "_law_many"] (defScope sLBeats) := ⟨rfl, rfl, rfl, by decide +kernel, rfl, by decide +kernel, by decide +kernel⟩
theorem ok_lbeats {f : Addr} {fd : FuncData} (F : Fun K "_law_beats" "_law_beats" sLBeats f fd) (mLen : mg "len" = none) (mList : mg "list" = none) : FnOk P w K mg base CX0 1 f fd ["_law_walk_here", "_law_many"] (spLBeats K) := by
  refine F.ok scLBeats (fun vs H Q E h => ?_) (fun cdv A outer s H vs Q E hr h => ?_)
  · obtain ⟨u, m, ah, rg, rfl, _⟩ := h
    rfl
  · obtain ⟨u, m, ah, rg, rfl, ⟨a1, a2, hu, h1, h2⟩, hn, la, lr, lm, k⟩ := h
    have hp := List.length_pos_iff.mpr hn
    refine ⟨_, (pss_cons (ps_asg (pv 0) (pg_tup rfl (pgs_cons (pg_name (i := 2) scLBeats.nd rfl (Or.inl rfl)) (pgs_cons (pg_name (i := 3) scLBeats.nd rfl (Or.inl rfl)) pgs_nil))))
       (pss_cons (ps_set (i := 4) scLBeats.nd rfl (Or.inl rfl) (pe_callTy call_list_of (by rfl) mList boot_list' (pa_cons (pv 2) pa_nil)))
       (C8.pss_cut (ps_while PassesOwn.never (pt_cmpR op_lt (pe_callB call_len_seq (by rfl) mLen PySem.boot_len (pa_cons (pv 4) pa_nil)) (pv 1) (nomark _))
         (pss_one (ps_set (i := 4) scLBeats.nd rfl (Or.inl rfl) (pe_op op_cat (pv 4) (pe_callTy call_list_of (by rfl) mList boot_list' (pa_cons (pv 3) pa_nil))))))
       (pss_one (ps_ret (pe_slice sl_list (pv 4) po_none (po_some (pv 1)))))))), ?_⟩
    refine ⟨_, rfl, u, _, rfl, hu, rfl, _, _, rfl, _, _, rfl, rfl, ?_⟩
    refine ⟨_, rfl, a1, _, rfl, h1, fun L hL => ?_⟩
    have s1 : Same H (upd H L (.lst (nums ah))) := same_new (Same.refl H) hL
    have hL1 : upd H L (.lst (nums ah)) L = some (.lst (nums (bts ah rg ah.length))) := by rw [upd_same, bts_ahead]
    generalize upd H L (.lst (nums ah)) = H1 at s1 hL1
    have lb : ∀ j, (nums (bts ah rg j)).length = j := fun j => by rw [nums_len, bts_len]
    refine ⟨fun σ H' => ∃ (D : Addr) (j : Nat), σ = [some (.ref u), some (.int (m : Int)), some (.ref a1), some (.ref a2), some (.ref D)] ∧ H' D = some (.lst (nums (bts ah rg j))) ∧ m ≤ j ∧ Same H H', ?_, ?_⟩
    · refine ⟨fun r σ H' => ∃ (D : Addr) (j : Nat), σ = [some (.ref u), some (.int (m : Int)), some (.ref a1), some (.ref a2), some (.ref D)] ∧ H' D = some (.lst (nums (bts ah rg j))) ∧ ah.length ≤ j ∧ (j - ah.length) % rg.length = 0 ∧ j ≤ m + 2000 ∧ r = m - j ∧ Same H H', ⟨_, L, ah.length, rfl, hL1, Nat.le_refl _, by rw [Nat.sub_self, Nat.zero_mod], by omega, rfl, s1⟩, ?_⟩
      rintro r σ H2 ⟨D, j, rfl, hD, hj1, hj2, hj3, rfl, s2⟩
      refine ⟨_, rfl, D, _, rfl, .inl (SqL.of hD), _, rfl, _, _, rfl, rfl, ?_⟩
      rw [lb]
      by_cases hlt : j < m
      case neg => exact ⟨false, congrArg V.bl (decide_eq_false (by omega)), iteF ⟨D, j, rfl, hD, by omega, s2⟩⟩
      refine ⟨true, congrArg V.bl (decide_eq_true (by omega)), iteT ⟨fun σ' H' => ∃ r', r' < m - j ∧ ∃ (D : Addr) (j : Nat), σ' = [some (.ref u), some (.int (m : Int)), some (.ref a1), some (.ref a2), some (.ref D)] ∧ H' D = some (.lst (nums (bts ah rg j))) ∧ ah.length ≤ j ∧ (j - ah.length) % rg.length = 0 ∧ j ≤ m + 2000 ∧ r' = m - j ∧ Same H H', fun σ' H' z => z, ?_⟩⟩
      refine ⟨_, rfl, _, rfl, a2, _, rfl, h2.same s2, fun L2 hL2 => ?_⟩
      have s3 : Same H2 (upd H2 L2 (.lst (nums rg))) := same_new (Same.refl H2) hL2
      refine ⟨D, L2, _, _, rfl, rfl, s3 _ _ hD, upd_same, by rw [sizeLine_eq, lb, nums_len]; omega, fun D2 hD2 => ?_⟩
      have ec : nums (bts ah rg j) ++ nums rg = nums (bts ah rg (j + rg.length)) := by
        rw [← bts_more hj1 hj2]
        unfold nums
        rw [List.map_append]
      rw [ec]
      refine ⟨m - (j + rg.length), by omega, D2, j + rg.length, rfl, upd_same, by omega, ?_, by omega, rfl, s2.trans (s3.trans (same_new (Same.refl _) hD2))⟩
      rw [show j + rg.length - ah.length = j - ah.length + rg.length by omega, Nat.add_mod_right]
      exact hj2
    rintro σ H2 ⟨D, j, rfl, hD, hj, s2⟩
    refine ⟨_, rfl, _, rfl, _, rfl, D, _, rfl, SqL.of hD, fun p hp => ?_⟩
    refine k _ p (same_new s2 hp) (s2.free hp) ?_
    rw [upd_same, cut_to _ (by rw [bts_len]; exact hj), bts_take hj]
abbrev nLShort : List Str := ["_law_ahead", "_law_ring", "_law_front", "_law_line", "_law_size"]
theorem scLWalker : FnScope ["_law_w", "_law_walk_here"] ["_law_w", "_law_walk_here"] (defScope sLWalker) := ⟨rfl, rfl, rfl, by decide +kernel, rfl, by decide +kernel, by decide +kernel⟩
theorem ok_lwalker {f fM fI C CW : Addr} {fd fdM fdI : FuncData} (F : Fun K "_law_walker" "_law_walker" sLWalker f fd) (GM : FnOk P w K mg base CX0 5 fM fdM ["_law_w"] (spMade C)) (bM : Binds K fdM ["_law_w"] []) (mM : mg "_law_made" = some (.ref fM)) (kM : PySem.W.keepIn K (.ref fM) = true)
    (MW : Mk K CW fI) (GI : FnOk P w K mg base CX0 4 fI fdI ["self", "web", "ahead", "ring"] (spWkInit K C CW)) (bI : Binds K fdI ["self", "web", "ahead", "ring"] []) (mC : mg "Walker" = some (.ref CW)) (mList : mg "list" = none) : FnOk P w K mg base CX0 6 f fd ["_law_w", "_law_walk_here"] (spLWalker K C CW) := by
  refine F.ok scLWalker (fun vs H Q E h => ?_) (fun cdv A outer s H vs Q E hr h => ?_)
  · obtain ⟨t, u, n, ps, ah, rg, rfl, _⟩ := h
    rfl
  · obtain ⟨t, u, n, ps, ah, rg, rfl, W, hn100, hp400, ⟨a1, a2, hu, h1, h2⟩, hn, hok, la, lr, k⟩ := h
    have hr5 : Room 5 _ := hr
    refine ⟨_, (pss_one (ps_ret (pe_make MW GI hr (by rfl) mC bI .nil pass0 (pa_cons (pe_call GM hr5 rfl mM kM bM .nil pass0 (pa_cons (pv 0) pa_nil)) (pa_cons (pe_callTy call_list_of (by rfl) mList boot_list' (pa_cons (pe_ix ix_tup (pv 1) pe_int (fun _ _ => rfl)) pa_nil)) (pa_cons (pe_callTy call_list_of (by rfl) mList boot_list' (pa_cons (pe_ix ix_tup (pv 1) pe_int (fun _ _ => rfl)) pa_nil)) pa_nil)))))), ?_⟩
    refine ⟨_, rfl, t, n, ps, rfl, W, hn100, hp400, fun H1 x hW s1 nx => ?_⟩
    refine ⟨_, rfl, u, _, _, _, rfl, rfl, sqT_kp (Same.kp s1) hu, rfl, a1, _, rfl, h1.same s1, fun L1 hL1 => ?_⟩
    have s2 := same_new s1 (o := .lst (nums ah)) hL1
    refine ⟨_, rfl, u, _, _, _, rfl, rfl, sqT_kp (Same.kp s2) hu, rfl, a2, _, rfl, h2.same s2, fun L2 hL2 => ?_⟩
    have s3 := same_new s2 (o := .lst (nums rg)) hL2
    have w3 := hW.sameW ((same_new (Same.refl H1) hL1).trans (same_new (o := .lst (nums rg)) (Same.refl _) hL2))
    have f1 : upd (upd H1 L1 (.lst (nums ah))) L2 (.lst (nums rg)) L1 = some (.lst (nums ah)) := (upd_ne (ne_of_none upd_same hL2)).trans upd_same
    have f2 : upd (upd H1 L1 (.lst (nums ah))) L2 (.lst (nums rg)) L2 = some (.lst (nums rg)) := upd_same
    generalize upd (upd H1 L1 (.lst (nums ah))) L2 (.lst (nums rg)) = H3 at s3 w3 f1 f2
    intro z dz nz ndz nez
    have s4 : Same H3 (upd (upd H3 dz (.own z)) z (.ins CW dz [])) := fun c o e => by
      rw [upd_ne (ne_of_none e nz), upd_ne (ne_of_none e ndz)]
      exact e
    refine ⟨z, dz, x, L1, L2, n, ps, ah, rg, rfl, upd_same, w3.sameW s4, .inl (SqL.of (s4 _ _ f1)), .inl (SqL.of (s4 _ _ f2)), hn, hok, la, lr, fun H5 ah' rg' hZ hbt l1 l2 g => ⟨rfl, k H5 z ah' rg' hZ hbt l1 l2 (fun c o e => ?_) (s3.free nz)⟩⟩
    have e3 := s3 _ _ e
    exact g c o (ne_of_none e3 nz) (s4 _ _ e3)
end
end KW


set_option Elab.async false
set_option maxRecDepth 100000
set_option maxHeartbeats 2000000
/-! A web told as any pair of a number and a tuple; walkers of it. -/
namespace KW
open PySem PySem.Spec PyProof.Rows L2
def WebU (K : PySem.W.Frag) (H : Hp) (t : Addr) (n : Nat) (ps : List (Nat × Nat)) : Prop := ∃ q as, SqT K H t [.int n, .ref q] ∧ SqT K H q as ∧ PairsIn H as ps ∧ Good n ps
theorem WebT.u {K : PySem.W.Frag} {H : Hp} {t n ps} (h : WebT H t n ps) : WebU K H t n ps := by
  obtain ⟨q, as, h1, h2, h3, h4⟩ := h
  exact ⟨q, as, SqT.of h1, h2.sq, h3, h4⟩
theorem WebU.kp {K : PySem.W.Frag} {H H' : Hp} (k : Kp H H') {t n ps} (h : WebU K H t n ps) : WebU K H' t n ps := by
  obtain ⟨q, as, h1, h2, h3, h4⟩ := h
  exact ⟨q, as, sqT_kp k h1, sqT_kp k h2, PairsIn.kp k h3, h4⟩
def spMadeU (K : PySem.W.Frag) (C : Addr) : Sp := fun vs H Q _ => ∃ (t : Addr) (n : Nat) (ps : List (Nat × Nat)), vs = [.ref t] ∧ WebU K H t n ps ∧ n ≤ 100 ∧ ps.length ≤ 400 ∧
  ∀ (H' : Hp) (x : Addr), WebAt C H' x n ps → Same H H' → H x = none → Q (.ref x) H'
def spLWalkerU (K : PySem.W.Frag) (C CW : Addr) : Sp := fun vs H Q _ => ∃ (t u : Addr) (n : Nat) (ps : List (Nat × Nat)) (ah rg : List Nat), vs = [.ref t, .ref u] ∧ WebU K H t n ps ∧ n ≤ 100 ∧ ps.length ≤ 400 ∧ WlkAt K H u ah rg ∧ rg ≠ [] ∧ OkW ps (beat ah rg) ∧ ah.length ≤ 1000 ∧ rg.length ≤ 1000 ∧
  ∀ (H' : Hp) (z : Addr) (ah' rg' : List Nat), WkAt K C CW H' z n ps ah' rg' → (∀ i, beat ah' rg' i = beat ah rg i) → ah'.length ≤ ah.length → rg'.length ≤ rg.length → Same H H' → H z = none → Q (.ref z) H'
section
variable {P : Program} {w : World} {K : PySem.W.Frag} {mg : Str → Option Value} {base : Heap}
theorem ok_madeU {f fI C : Addr} {fd fdI : FuncData} (F : Fun K "_law_made" "_law_made" sMade f fd) (M : Mk K C fI) (GI : FnOk P w K mg base CX0 3 fI fdI ["self", "rooms", "arrows"] (spInit K C)) (bI : Binds K fdI ["self", "rooms", "arrows"] []) (mC : mg "Web" = some (.ref C))
    (mList : mg "list" = none) : FnOk P w K mg base CX0 5 f fd ["_law_w"] (spMadeU K C) := by
  refine F.ok scMade (fun vs H Q E h => ?_) (fun cdv A outer s H vs Q E hr h => ?_)
  · obtain ⟨t, n, ps, rfl, _⟩ := h
    rfl
  · obtain ⟨t, n, ps, rfl, ⟨q, as, h1, h2, h3, h4⟩, hn, hl, k⟩ := h
    refine ⟨_, pss_one (ps_ret (pe_make M GI hr rfl mC bI .nil pass0 (pa_cons (pe_ix ix_tup (pv 0) pe_int (fun _ _ => rfl)) (pa_cons (pe_callTy call_list_of (by rfl) mList (by decide +kernel) (pa_cons (pe_ix ix_tup (pv 0) pe_int (fun _ _ => rfl)) pa_nil)) pa_nil)))), ?_⟩
    refine ⟨_, rfl, t, _, _, _, rfl, rfl, h1, rfl, _, rfl, t, _, _, _, rfl, rfl, h1, rfl, q, _, rfl, .inr h2, fun l hl' => ?_⟩
    intro x dx nx ndx nex
    have s1 : Same H (upd H l (.lst as)) := same_new (Same.refl H) hl'
    have s2 : Same (upd H l (.lst as)) (upd (upd (upd H l (.lst as)) dx (.own x)) x (.ins C dx [])) := fun b o e => by
      rw [upd_ne (ne_of_none e nx), upd_ne (ne_of_none e ndx)]
      exact e
    have s3 := s1.trans s2
    refine ⟨x, dx, l, n, as, ps, rfl, upd_same, SqL.of (s2 _ _ upd_same), PairsIn.loose (PairsIn.kp (Same.kp s3) h3), h4, hn, hl, fun H' hW g => ⟨rfl, k H' x hW (fun b o e => ?_) (s1.free nx)⟩⟩
    have nbx : b ≠ x := ne_of_none (s1 _ _ e) nx
    exact g b o nbx (s3 _ _ e)
theorem ok_lwalkerU {f fM fI C CW : Addr} {fd fdM fdI : FuncData} (F : Fun K "_law_walker" "_law_walker" sLWalker f fd) (GM : FnOk P w K mg base CX0 5 fM fdM ["_law_w"] (spMadeU K C)) (bM : Binds K fdM ["_law_w"] []) (mM : mg "_law_made" = some (.ref fM)) (kM : PySem.W.keepIn K (.ref fM) = true)
    (MW : Mk K CW fI) (GI : FnOk P w K mg base CX0 4 fI fdI ["self", "web", "ahead", "ring"] (spWkInit K C CW)) (bI : Binds K fdI ["self", "web", "ahead", "ring"] []) (mC : mg "Walker" = some (.ref CW)) (mList : mg "list" = none) : FnOk P w K mg base CX0 6 f fd ["_law_w", "_law_walk_here"] (spLWalkerU K C CW) := by
  refine F.ok scLWalker (fun vs H Q E h => ?_) (fun cdv A outer s H vs Q E hr h => ?_)
  · obtain ⟨t, u, n, ps, ah, rg, rfl, _⟩ := h
    rfl
  · obtain ⟨t, u, n, ps, ah, rg, rfl, W, hn100, hp400, ⟨a1, a2, hu, h1, h2⟩, hn, hok, la, lr, k⟩ := h
    have hr5 : Room 5 _ := hr
    refine ⟨_, (pss_one (ps_ret (pe_make MW GI hr (by rfl) mC bI .nil pass0 (pa_cons (pe_call GM hr5 rfl mM kM bM .nil pass0 (pa_cons (pv 0) pa_nil)) (pa_cons (pe_callTy call_list_of (by rfl) mList boot_list' (pa_cons (pe_ix ix_tup (pv 1) pe_int (fun _ _ => rfl)) pa_nil)) (pa_cons (pe_callTy call_list_of (by rfl) mList boot_list' (pa_cons (pe_ix ix_tup (pv 1) pe_int (fun _ _ => rfl)) pa_nil)) pa_nil)))))), ?_⟩
    refine ⟨_, rfl, t, n, ps, rfl, W, hn100, hp400, fun H1 x hW s1 nx => ?_⟩
    refine ⟨_, rfl, u, _, _, _, rfl, rfl, sqT_kp (Same.kp s1) hu, rfl, a1, _, rfl, h1.same s1, fun L1 hL1 => ?_⟩
    have s2 := same_new s1 (o := .lst (nums ah)) hL1
    refine ⟨_, rfl, u, _, _, _, rfl, rfl, sqT_kp (Same.kp s2) hu, rfl, a2, _, rfl, h2.same s2, fun L2 hL2 => ?_⟩
    have s3 := same_new s2 (o := .lst (nums rg)) hL2
    have w3 := hW.sameW ((same_new (Same.refl H1) hL1).trans (same_new (o := .lst (nums rg)) (Same.refl _) hL2))
    have f1 : upd (upd H1 L1 (.lst (nums ah))) L2 (.lst (nums rg)) L1 = some (.lst (nums ah)) := (upd_ne (ne_of_none upd_same hL2)).trans upd_same
    have f2 : upd (upd H1 L1 (.lst (nums ah))) L2 (.lst (nums rg)) L2 = some (.lst (nums rg)) := upd_same
    generalize upd (upd H1 L1 (.lst (nums ah))) L2 (.lst (nums rg)) = H3 at s3 w3 f1 f2
    intro z dz nz ndz nez
    have s4 : Same H3 (upd (upd H3 dz (.own z)) z (.ins CW dz [])) := fun c o e => by
      rw [upd_ne (ne_of_none e nz), upd_ne (ne_of_none e ndz)]
      exact e
    refine ⟨z, dz, x, L1, L2, n, ps, ah, rg, rfl, upd_same, w3.sameW s4, .inl (SqL.of (s4 _ _ f1)), .inl (SqL.of (s4 _ _ f2)), hn, hok, la, lr, fun H5 ah' rg' hZ hbt l1 l2 g => ⟨rfl, k H5 z ah' rg' hZ hbt l1 l2 (fun c o e => ?_) (s3.free nz)⟩⟩
    have e3 := s3 _ _ e
    exact g c o (ne_of_none e3 nz) (s4 _ _ e3)
end
/-- a walk told as a pair of lists -/
def WlkL (H : Hp) (u : Addr) (ah rg : List Nat) : Prop := ∃ a1 a2, H u = some (.tup [.ref a1, .ref a2]) ∧ H a1 = some (.lst (nums ah)) ∧ H a2 = some (.lst (nums rg))
theorem WlkL.at {K : PySem.W.Frag} {H : Hp} {u : Addr} {ah rg : List Nat} (h : WlkL H u ah rg) : WlkAt K H u ah rg := by
  obtain ⟨a1, a2, h1, h2, h3⟩ := h
  exact ⟨a1, a2, SqT.of h1, .inl (SqL.of h2), .inl (SqL.of h3)⟩
theorem WlkL.same {H H' : Hp} (s : Same H H') {u : Addr} {ah rg : List Nat} (h : WlkL H u ah rg) : WlkL H' u ah rg := by
  obtain ⟨a1, a2, h1, h2, h3⟩ := h
  exact ⟨a1, a2, s _ _ h1, s _ _ h2, s _ _ h3⟩
theorem bag_notL {b l : Addr} {ms : List Int} {H : Hp} (B : BagAt b l ms H) {c : Addr} {x : List Nat} (h : H c = some (.lst (nums x))) : c ≠ b := fun e => by
  obtain ⟨⟨i, r, sd, k, hb, _⟩, _⟩ := B
  rw [e, hb] at h
  injection h with h
  injection h with h
  unfold nums at h
  cases x with
  | nil => cases h
  | cons y ys =>
    injection h with h _
    cases h
theorem WlkL.grow {b l : Addr} {ms : List Int} {H H' : Hp} (B : BagAt b l ms H) (g : Grow b H H') {u : Addr} {ah rg : List Nat} (h : WlkL H u ah rg) : WlkL H' u ah rg := by
  obtain ⟨a1, a2, h1, h2, h3⟩ := h
  obtain ⟨xs, hb⟩ := B.list
  exact ⟨a1, a2, (Kp.grow hb g).t h1, g _ _ (bag_notL B h2) h2, g _ _ (bag_notL B h3) h3⟩
structure C9 (b l t u v : Addr) (ms : List Int) (n : Nat) (ps : List (Nat × Nat)) (ah rg bh br : List Nat) (H : Hp) : Prop where
  bag : BagAt b l ms H
  wt : WebT H t n ps
  w1 : WlkL H u ah rg
  w2 : WlkL H v bh br
theorem bag_sameU {b l : Addr} {ms : List Int} {H H' : Hp} (s : Same H H') (B : BagAt b l ms H) : BagAt b l ms H' := by
  obtain ⟨⟨i, r, sd, c, h, hi⟩, hl, nbl⟩ := B
  exact ⟨⟨i, r, sd, c, s _ _ h, hi⟩, s _ _ hl, nbl⟩
section
variable {b l t u v : Addr} {ms : List Int} {n : Nat} {ps : List (Nat × Nat)} {ah rg bh br : List Nat} {H H' : Hp}
theorem C9.same (c : C9 b l t u v ms n ps ah rg bh br H) (s : Same H H') : C9 b l t u v ms n ps ah rg bh br H' := ⟨bag_sameU s c.bag, c.wt.kp (Same.kp s), c.w1.same s, c.w2.same s⟩
theorem C9.grow (c : C9 b l t u v ms n ps ah rg bh br H) (g : Grow b H H') (B : BagAt b l ms H') : C9 b l t u v ms n ps ah rg bh br H' := by
  obtain ⟨xs, hb⟩ := c.bag.list
  exact ⟨B, c.wt.kp (Kp.grow hb g), c.w1.grow c.bag g, c.w2.grow c.bag g⟩
theorem C9.other (c : C9 b l t u v ms n ps ah rg bh br H) {v' : Addr} {bh' br' : List Nat} (h : WlkL H v' bh' br') : C9 b l t u v' ms n ps ah rg bh' br' H := ⟨c.bag, c.wt, c.w1, h⟩
end
theorem good_more {n : Nat} {ps : List (Nat × Nat)} (g : Good n ps) : Good n (ps ++ [(0, 0)]) := by
  refine ⟨g.1, fun p hp => ?_, fun r hr => ?_⟩
  · rcases List.mem_append.mp hp with h | h
    · exact g.2.1 p h
    · rw [List.mem_singleton.mp h]
      exact ⟨g.1, g.1⟩
  · obtain ⟨p, h1, h2⟩ := g.2.2 r hr
    exact ⟨p, List.mem_append_left _ h1, h2⟩
end KW


set_option Elab.async false
set_option maxRecDepth 100000
set_option maxHeartbeats 4000000
/-! The law. -/
namespace KW
open PySem PySem.Spec PyProof.Rows L2
abbrev sLaw : Stmt := topS 40
abbrev nLaw : List Str := ["_law_script", "_law_bag_here", "_law_turn", "_law_w", "_law_one", "_law_other", "_law_room", "_law_tail", "_law_many", "_law_due", "_law_here", "_law_there", "_law_wide", "_law_arrow"]
theorem scLaw : FnScope nLaw ["_law_script"] (defScope sLaw) := ⟨rfl, rfl, rfl, by decide +kernel, rfl, by decide +kernel, by decide +kernel⟩
def spLaw (K : PySem.W.Frag) : Sp := fun vs H Q _ => ∃ (a : Addr) (ns : List Int), vs = [.ref a] ∧ SqL K H a (ns.map V.int) ∧ ∀ H', Q (.bl true) H'
structure Defs (P : Program) (w : World) (K : PySem.W.Frag) (mg : Str → Option Value) (base : Heap) (C CW : Addr) : Prop where
  TW : WkC K CW
  TQ : WkQ K CW
  range : mg "range" = none
  len : mg "len" = none
  list_ : mg "list" = none
  ne : PySem.W.findIn K (.ref CW) "__ne__" = some (some (.builtin "object.__ne__"))
  bag : ∃ f fd, FnOk P w K mg base CX0 1 f fd ["_law_script"] (spBag K) ∧ Binds K fd ["_law_script"] [] ∧ mg "_law_bag" = some (.ref f) ∧ PySem.W.keepIn K (.ref f) = true
  pull : ∃ f fd, FnOk P w K mg base CX0 1 f fd ["_law_bag_here", "_law_many"] spPull ∧ Binds K fd ["_law_bag_here", "_law_many"] [] ∧ mg "_law_pull" = some (.ref f) ∧ PySem.W.keepIn K (.ref f) = true
  web : ∃ f fd, FnOk P w K mg base CX0 3 f fd ["_law_bag_here", "_law_rooms_most", "_law_more_most"] spWeb ∧ Binds K fd ["_law_bag_here", "_law_rooms_most", "_law_more_most"] [] ∧ mg "_law_web" = some (.ref f) ∧ PySem.W.keepIn K (.ref f) = true
  walk : ∃ f fd, FnOk P w K mg base CX0 3 f fd ["_law_bag_here", "_law_w"] spLWalk ∧ Binds K fd ["_law_bag_here", "_law_w"] [] ∧ mg "_law_walk" = some (.ref f) ∧ PySem.W.keepIn K (.ref f) = true
  beats : ∃ f fd, FnOk P w K mg base CX0 1 f fd ["_law_walk_here", "_law_many"] (spLBeats K) ∧ Binds K fd ["_law_walk_here", "_law_many"] [] ∧ mg "_law_beats" = some (.ref f) ∧ PySem.W.keepIn K (.ref f) = true
  karrow : ∃ f fd, FnOk P w K mg base CX0 1 f fd ["self", "beat"] (spWkArrow K C CW) ∧ Binds K fd ["self", "beat"] [] ∧ Meth K CW "arrow" f
  keq : ∃ f fd, FnOk P w K mg base CX0 2 f fd ["self", "other"] (spWkEq K C CW) ∧ Binds K fd ["self", "other"] [] ∧ PySem.W.findIn K (.ref CW) "__eq__" = some (some (.ref f)) ∧ PySem.W.isFn K (.ref f) = true
  outs : ∃ f fd, FnOk P w K mg base CX0 1 f fd ["_law_w", "_law_room"] spLOuts ∧ Binds K fd ["_law_w", "_law_room"] [] ∧ mg "_law_outs" = some (.ref f) ∧ PySem.W.keepIn K (.ref f) = true
  walker : ∃ f fd, FnOk P w K mg base CX0 6 f fd ["_law_w", "_law_walk_here"] (spLWalkerU K C CW) ∧ Binds K fd ["_law_w", "_law_walk_here"] [] ∧ mg "_law_walker" = some (.ref f) ∧ PySem.W.keepIn K (.ref f) = true
theorem cut_one (l : List Nat) : cutV (nums l) none (some 1) = nums (l.take 1) := by
  cases l with
  | nil => rfl
  | cons a r => exact cut_to (a :: r) (k := 1) (by simp)
theorem chain_get9 {ps : List (Nat × Nat)} : ∀ {r : List Nat}, chain ps r → (∀ i, i < r.length → r.getD i 0 < ps.length) ∧ ∀ i, i + 1 < r.length → (ps.getD (r.getD i 0) (0, 0)).2 = (ps.getD (r.getD (i + 1) 0) (0, 0)).1
  | [], _ => ⟨fun i h => absurd h (Nat.not_lt_zero _), fun i h => absurd h (Nat.not_lt_zero _)⟩
  | [x], h => ⟨fun i hi => by
      have e : i = 0 := by
        have : i < 1 := hi
        omega
      subst e
      exact h, fun i hi => absurd (show i + 1 < 1 from hi) (by omega)⟩
  | x :: y :: r, h => by
    obtain ⟨g1, g2⟩ := chain_get9 h.2.2
    refine ⟨fun i hi => ?_, fun i hi => ?_⟩
    · cases i with
      | zero => exact h.1
      | succ i => exact g1 i (by simpa using hi)
    · cases i with
      | zero => exact h.2.1
      | succ i => exact g2 i (by simpa using hi)
theorem chain_okW9 {ps : List (Nat × Nat)} {ah rg : List Nat} (hn : rg ≠ []) (h : chain ps (ah ++ rg)) (e : end_ ps rg = bgn ps rg) : OkW ps (beat ah rg) := by
  obtain ⟨g1, g2⟩ := chain_get9 h
  rw [List.length_append] at g1 g2
  exact okW_of hn g1 g2 e
section
variable {P : Program} {w : World} {K : PySem.W.Frag} {mg : Str → Option Value} {base : Heap}
set_option maxHeartbeats 40000000 in
theorem ok_law {f C CW : Addr} {fd : FuncData} (F : Fun K "law" "law" sLaw f fd) (Z : Defs P w K mg base C CW) : FnOk P w K mg base CX0 7 f fd ["_law_script"] (spLaw K) := by
  refine F.ok scLaw (fun vs H Q E h => ?_) (fun cdv A outer s H vs Q E hr h => ?_)
  · obtain ⟨a, ns, rfl, _⟩ := h
    rfl
  · obtain ⟨a, ns, rfl, hS, kk⟩ := h
    have TW := Z.TW
    obtain ⟨fB, fdB, GB, bB, mB, kB⟩ := Z.bag
    obtain ⟨fP, fdP, GP, bP, mP, kP⟩ := Z.pull
    obtain ⟨fW, fdW, GW, bW, mW, kW⟩ := Z.web
    obtain ⟨fL, fdL, GL, bL, mL, kL⟩ := Z.walk
    obtain ⟨fX, fdX, GX, bX, mX, kX⟩ := Z.beats
    obtain ⟨fO, fdO, GO, bO, mO, kO⟩ := Z.outs
    obtain ⟨fK, fdK, GK, bK, mK, kK⟩ := Z.walker
    obtain ⟨f4, fd4, G4, b4, m4⟩ := Z.karrow
    obtain ⟨f7, fd7, G7, b7, s7, i7⟩ := Z.keq
    have hr1 : Room 1 _ := hr.mono (by decide)
    have hr2 : Room 2 _ := hr.mono (by decide)
    have hr3 : Room 3 _ := hr.mono (by decide)
    refine ⟨_, (pss_cons (ps_set (i := 1) scLaw.nd rfl (Or.inl rfl) (pe_call GB hr1 rfl mB kB bB .nil pass0 (pa_cons (pv 0) pa_nil)))
 (pss_cons (ps_for PassesOwn.never rfl (pi_range1 (by rfl) Z.range (pa_cons pe_int pa_nil)) (pg_name (i := 2) scLaw.nd rfl (Or.inl rfl))
 (pss_cons (ps_set (i := 3) scLaw.nd rfl (Or.inr rfl) (pe_call GW hr3 rfl mW kW bW .nil pass0 (pa_cons (pv 1) (pa_cons pe_int (pa_cons pe_int pa_nil)))))
 (pss_cons (ps_par (i := 4) (j := 5) (by rfl) scLaw.nd rfl rfl (by decide) rfl rfl (pa_cons (pe_call GL hr3 rfl mL kL bL .nil pass0 (pa_cons (pv 1) (pa_cons (pv 3) pa_nil))) (pa_cons (pe_call GL hr3 rfl mL kL bL .nil pass0 (pa_cons (pv 1) (pa_cons (pv 3) pa_nil))) pa_nil)) (by rfl))
 (C8.pss_cut (ps_if (pt_cmpR op_eq (pe_call GP hr1 rfl mP kP bP .nil pass0 (pa_cons (pv 1) (pa_cons pe_int pa_nil))) pe_int (nomark _))
 (pss_one (ps_set (i := 5) scLaw.nd rfl (Or.inl rfl) (pe_tup (pa_cons (pe_call GX hr1 rfl mX kX bX .nil pass0 (pa_cons (pv 4) (pa_cons (pe_op op_add (pe_callB call_len_seq (by rfl) Z.len PySem.boot_len (pa_cons (pe_ix ix_tup (pv 4) pe_int (fun _ _ => rfl)) pa_nil)) (pe_callB call_len_seq (by rfl) Z.len PySem.boot_len (pa_cons (pe_ix ix_tup (pv 4) pe_int (fun _ _ => rfl)) pa_nil))) pa_nil))) (pa_cons (pe_op op_rep (pe_callTy call_list_of (by rfl) Z.list_ boot_list' (pa_cons (pe_ix ix_tup (pv 4) pe_int (fun _ _ => rfl)) pa_nil)) pe_int) pa_nil)))))
 (pss_one (ps_if (pt_cmpR op_eq (pe_call GP hr1 rfl mP kP bP .nil pass0 (pa_cons (pv 1) (pa_cons pe_int pa_nil))) pe_int (nomark _))
 (pss_cons (ps_set (i := 6) scLaw.nd rfl (Or.inr rfl) (pe_ix ix_tup (pe_ix ix_tup (pe_ix ix_tup (pv 3) pe_int (fun _ _ => rfl)) (pe_ix ix_list (pe_ix ix_tup (pv 4) pe_int (fun _ _ => rfl)) (pe_un un_neg pe_int) (fun _ _ => rfl)) (fun _ _ => rfl)) pe_int (fun _ _ => rfl)))
 (pss_cons (ps_set (i := 7) scLaw.nd rfl (Or.inl rfl) (pe_op op_cat (pe_lc (own := [("_law_arrow", 13)]) (g := (gName 13)) rfl scLaw.nd (pi_list (pe_call GO hr1 rfl mO kO bO .nil pass0 (pa_cons (pv 3) (pa_cons (pv 6) pa_nil)))) (blkOk_by (own := [("_law_arrow", 13)]) (N := nLaw) (sc := defScope sLaw) (by decide +kernel)) (fun _ _ _ _ _ => (pg_name (i := 13) scLaw.nd rfl (Or.inl rfl))) (fun _ _ _ _ _ => (pts_one (pt_cmpR op_eq (pe_ix (ix_tupK (K := K) rfl) (pe_ix (ix_tupK (K := K) rfl) (pe_ix (ix_tupK (K := K) rfl) (pv 3) pe_int (fun _ _ => rfl)) (pv 13) (fun _ _ => rfl)) pe_int (fun _ _ => rfl)) (pv 6) (nomark _)))) (fun _ _ _ _ _ => (pv 13))) (pe_slice sl_list (pe_ix ix_tup (pv 4) pe_int (fun _ _ => rfl)) po_none (po_some pe_int))))
 (pss_cons (ps_set (i := 5) scLaw.nd rfl (Or.inl rfl) (pe_tup (pa_cons (pe_op op_cat (pe_call GX hr1 rfl mX kX bX .nil pass0 (pa_cons (pv 4) (pa_cons (pe_op op_add (pe_callB call_len_seq (by rfl) Z.len PySem.boot_len (pa_cons (pe_ix ix_tup (pv 4) pe_int (fun _ _ => rfl)) pa_nil)) (pe_op op_mul pe_int (pe_callB call_len_seq (by rfl) Z.len PySem.boot_len (pa_cons (pe_ix ix_tup (pv 4) pe_int (fun _ _ => rfl)) pa_nil)))) pa_nil))) (pe_slice sl_list (pv 7) po_none (po_some pe_int))) (pa_cons (pe_lst pa_nil) pa_nil))))
 (pss_one (ps_set (i := 5) scLaw.nd rfl (Or.inl rfl) (pe_ifExp (pt_cmpR op_eq (pe_ix ix_tup (pe_ix ix_tup (pe_ix ix_tup (pv 3) pe_int (fun _ _ => rfl)) (pe_ix ix_list (pv 7) pe_int (fun _ _ => rfl)) (fun _ _ => rfl)) pe_int (fun _ _ => rfl)) (pv 6) (nomark _)) (pe_tup (pa_cons (pe_ix ix_tup (pv 5) pe_int (fun _ _ => rfl)) (pa_cons (pe_slice sl_list (pv 7) po_none (po_some pe_int)) pa_nil))) (pv 4)))))))
 pss_nil)))
 (pss_cons (ps_set (i := 8) scLaw.nd rfl (Or.inl rfl) (pe_op op_add (pe_op op_add (pe_op op_add (pe_callB call_len_seq (by rfl) Z.len PySem.boot_len (pa_cons (pe_ix ix_tup (pv 4) pe_int (fun _ _ => rfl)) pa_nil)) (pe_callB call_len_seq (by rfl) Z.len PySem.boot_len (pa_cons (pe_ix ix_tup (pv 5) pe_int (fun _ _ => rfl)) pa_nil))) (pe_callB call_len_seq (by rfl) Z.len PySem.boot_len (pa_cons (pe_ix ix_tup (pv 4) pe_int (fun _ _ => rfl)) pa_nil))) (pe_callB call_len_seq (by rfl) Z.len PySem.boot_len (pa_cons (pe_ix ix_tup (pv 5) pe_int (fun _ _ => rfl)) pa_nil))))
 (pss_cons (ps_set (i := 9) scLaw.nd rfl (Or.inl rfl) (pe_cmpR (op_eqD hr.units) (pe_call GX hr1 rfl mX kX bX .nil pass0 (pa_cons (pv 4) (pa_cons (pv 8) pa_nil))) (pe_call GX hr1 rfl mX kX bX .nil pass0 (pa_cons (pv 5) (pa_cons (pv 8) pa_nil))) (nomark _)))
 (pss_cons (ps_par (i := 10) (j := 11) (by rfl) scLaw.nd rfl rfl (by decide) rfl rfl (pa_cons (pe_call GK hr rfl mK kK bK .nil pass0 (pa_cons (pv 3) (pa_cons (pv 4) pa_nil))) (pa_cons (pe_call GK hr rfl mK kK bK .nil pass0 (pa_cons (pv 3) (pa_cons (pv 5) pa_nil))) pa_nil)) (by rfl))
 (pss_cons (ps_if (PW.pt (pw_or (pt_cmpR op_ne (pe_cmpR (op_eqO G7 hr2 b7 pass0 s7 i7) (pv 10) (pv 11) (nomark _)) (pv 9) (nomark _)) (pw_or (pt_cmpR op_ne (pe_cmpR (op_eqO G7 hr2 b7 pass0 s7 i7) (pv 11) (pv 10) (nomark _)) (pv 9) (nomark _)) (pw_or1 (pt_cmpR op_eq (pe_cmpR (op_neO G7 hr3 b7 pass0 s7 i7 Z.ne Z.TQ.hm) (pv 10) (pv 11) (nomark _)) (pv 9) (nomark _))))))
 pss_never
 pss_nil)
 (pss_cons (ps_set (i := 12) scLaw.nd rfl (Or.inl rfl) (pe_tup (pa_cons (pe_ix ix_tup (pv 3) pe_int (fun _ _ => rfl)) (pa_cons (pe_op op_catA (pe_ix ix_tup (pv 3) pe_int (fun _ _ => rfl)) (pe_tup (pa_cons (pe_tup (pa_cons pe_int (pa_cons pe_int pa_nil))) pa_nil))) pa_nil))))
 (pss_cons (ps_if (PW.pt (pw_or (pt_cmpR (op_eqO G7 hr2 b7 pass0 s7 i7) (pv 10) (pe_call GK hr rfl mK kK bK .nil pass0 (pa_cons (pv 12) (pa_cons (pv 4) pa_nil))) (nomark _)) (pw_or1 (pt_cmpR (op_neO G7 hr3 b7 pass0 s7 i7 Z.ne Z.TQ.hm) (pv 10) (pe_call GK hr rfl mK kK bK .nil pass0 (pa_cons (pv 3) (pa_cons (pv 4) pa_nil))) (nomark _)))))
 pss_never
 pss_nil)
 (pss_one (ps_if (PW.pt (pw_and (pt_val (pv 9)) (pw_and1 (pt_cmpR op_ne (pe_meth (pv 10) TW.cl m4 G4 hr1 b4 .nil pass0 (pa_cons (pe_op op_pow pe_int pe_int) pa_nil)) (pe_meth (pv 11) TW.cl m4 G4 hr1 b4 .nil pass0 (pa_cons (pe_op op_pow pe_int pe_int) pa_nil)) (nomark _)))))
 pss_never
 pss_nil))))))))))))
 (pss_one (ps_ret pe_bl)))), ?_⟩
    refine ⟨_, rfl, a, ns, rfl, hS, fun H1 b l s1 nb nl B1 => ?_⟩
    generalize hns : ns.take 63 = ms at B1
    refine ⟨_, rfl, by decide, by decide, for_range (lo := 0) (n := 6) (fun _ σ H' => (∃ v2 v3 v4 v5 v6 v7 v8 v9 v10 v11 v12 : Option V, σ = [some (.ref a), some (.ref b), v2, v3, v4, v5, v6, v7, v8, v9, v10, v11, v12, none]) ∧ BagAt b l ms H')
      ⟨⟨none, none, none, none, none, none, none, none, none, none, none, rfl⟩, B1⟩ ?_ (fun σ H' _ => kk H')⟩
    rintro i0 σ H2 hi0 ⟨⟨v2, v3, v4, v5, v6, v7, v8, v9, v10, v11, v12, rfl⟩, B2⟩
    refine ⟨_, rfl, b, l, ms, 3, 3, rfl, B2, by decide, by decide, by decide, fun H3 t n ps Gr3 W3 hn hp B3 => ?_⟩
    -- two walks
    refine ⟨_, rfl, _, rfl, b, l, ms, t, n, ps, rfl, B3, W3, by omega, by omega, fun H4 u a1 a2 ah rg Gr4 B4 hu4 h14 h24 hrn hch hend hlen => ?_⟩
    obtain ⟨xb3, hb3⟩ := B3.list
    have W4 := W3.kp (Kp.grow hb3 Gr4)
    have w4 : WlkL H4 u ah rg := ⟨a1, a2, hu4, h14, h24⟩
    refine ⟨_, rfl, _, rfl, b, l, ms, t, n, ps, rfl, B4, W4, by omega, by omega, fun H5 v0 e1 e2 bh0 br0 Gr5 B5 hu5 h15 h25 hbn hbch hbend hblen => ⟨_, _, rfl, ?_⟩⟩
    obtain ⟨xb4, hb4⟩ := B4.list
    have c5 : C9 b l t u v0 ms n ps ah rg bh0 br0 H5 := ⟨B5, W4.kp (Kp.grow hb4 Gr5), w4.grow B4 Gr5, ⟨e1, e2, hu5, h15, h25⟩⟩
    have hok : OkW ps (beat ah rg) := chain_okW9 hrn hch hend
    have hok0 : OkW ps (beat bh0 br0) := chain_okW9 hbn hbch hbend
    have hG : Good n ps := by
      obtain ⟨_, _, _, _, _, g⟩ := W4
      exact g
    have hrp := List.length_pos_iff.mpr hrn
    have lah := nums_len ah
    have lrg := nums_len rg
    have rlast := (red_lt hok).2 _ (last_mem hrn)
    clear Gr3 Gr4 Gr5 B3 W3 hb3 B4 W4 w4 hb4 B5 hu4 h14 h24 hu5 h15 h25 hbch hbend
    -- the other one
    refine ⟨fun σ H' => ∃ (v : Addr) (bh br : List Nat) (x6 x7 : Option V), σ = [some (.ref a), some (.ref b), some (.int (0 + (i0 : Nat))), some (.ref t), some (.ref u), some (.ref v), x6, x7, v8, v9, v10, v11, v12, none] ∧ C9 b l t u v ms n ps ah rg bh br H' ∧ br ≠ [] ∧ OkW ps (beat bh br) ∧ bh.length ≤ 100 ∧ br.length ≤ 100, ?_, ?_⟩
    · refine ⟨_, rfl, b, l, ms, _, rfl, c5.bag, by decide, by decide, fun H6 r r0 r1 O6 B6 => ⟨rfl, _, rfl, ?_⟩⟩
      have c6 := c5.grow O6.grow B6
      obtain ⟨a1, a2, hu6, h16, h26⟩ := id c6.w1
      refine ite2 (fun _ => ?_) (fun _ => ?_)
      · -- told longer
        refine ⟨_, rfl, _, rfl, u, _, _, _, rfl, rfl, SqT.of hu6, rfl, a1, _, rfl, .inl (SqL.of h16), _, rfl, u, _, _, _, rfl, rfl, SqT.of hu6, rfl, a2, _, rfl, .inl (SqL.of h26), _, _, rfl, rfl, u, ah.length + rg.length, ah, rg, by rw [lah, lrg]; rfl, c6.w1.at, hrn, by omega, by omega, by omega, fun H7 L s7 nL hL => ?_⟩
        have c7 := c6.same s7
        refine ⟨_, rfl, u, _, _, _, rfl, rfl, SqT.of (s7 _ _ hu6), rfl, a2, _, rfl, .inl (SqL.of (s7 _ _ h26)), fun M1 hM1 => ?_⟩
        have t1 : Same H7 (upd H7 M1 (.lst (nums rg))) := same_new (Same.refl H7) hM1
        refine ⟨M1, _, _, rfl, rfl, upd_same, by decide, by decide, by rw [sizeLine_eq, lrg]; show rg.length * 2 ≤ _; omega, fun M2 hM2 => ?_⟩
        have e2 : (List.replicate (2 : Int).toNat (nums rg)).flatten = nums ((List.replicate 2 rg).flatten) := nums_rep 2 rg
        rw [e2]
        have t2 := same_new t1 (o := .lst (nums ((List.replicate 2 rg).flatten))) hM2
        refine ⟨by show 2 ≤ sizeLine; decide, fun v hv => ?_⟩
        have t3 := same_new t2 (o := .tup [.ref L, .ref M2]) hv
        have hlong : ∀ i, beat (bts ah rg (ah.length + rg.length)) ((List.replicate 2 rg).flatten) i = beat ah rg i := fun i => by
          by_cases q : i < ah.length + rg.length
          · rw [beat_lt (by rw [bts_len]; exact q), bts_getD q]
          · rw [beat_ge (by rw [bts_len]; omega), bts_len, rep_len, rep_get rg hrn 2 _ (Nat.mod_lt _ (by omega)), mod_mod_of (Nat.mul_mod_left 2 rg.length), beat_ge (by omega)]
            congr 1
            rw [show i - ah.length = (i - (ah.length + rg.length)) + rg.length by omega, Nat.add_mod_right]
        refine ⟨v, bts ah rg (ah.length + rg.length), (List.replicate 2 rg).flatten, _, _, rfl, (c7.same t3).other ⟨L, M2, upd_same, t3 _ _ hL, (upd_ne (ne_of_none upd_same hv)).trans upd_same⟩, fun z => ?_, hok.to fun i => (hlong i).symm, by rw [bts_len]; omega, by rw [rep_len]; omega⟩
        have q := rep_len rg 2
        rw [z] at q
        exact absurd q (by simp; omega)
      refine ⟨_, rfl, b, l, ms, _, rfl, c6.bag, by decide, by decide, fun H7 r' r0' r1' O7 B7 => ⟨rfl, _, rfl, ?_⟩⟩
      have c7 := c6.grow O7.grow B7
      refine ite2 (fun _ => ?_) (fun _ => ⟨v0, bh0, br0, _, _, rfl, c7, hbn, hok0, by omega, by omega⟩)
      obtain ⟨a1, a2, hu7, h17, h27⟩ := id c7.w1
      obtain ⟨q, as, ht, hq, hP, _⟩ := id c7.wt
      have hal : as.length = ps.length := Paired.length hP
      have pick : ∀ {H' : Hp} (x : Nat), Same H7 H' → x < ps.length → ∃ e, as[x]? = some (.ref e) ∧ H' e = some (.tup [.int (ps.getD x (0, 0)).1, .int (ps.getD x (0, 0)).2]) := fun {H'} x s' hx => by
        obtain ⟨e, h1, h2⟩ := pair_at hP (ps_at hx)
        exact ⟨e, h1, s' _ _ h2⟩
      -- the room to which the ring leads
      obtain ⟨e0, he0, hp0⟩ := pick _ (Same.refl H7) rlast
      refine ⟨_, rfl, t, _, _, _, rfl, rfl, SqT.of ht, rfl, _, rfl, u, _, _, _, rfl, rfl, SqT.of hu7, rfl, _, rfl, a2, _, _, _, rfl, rfl, SqL.of h27, at_last hrn, q, _, _, _, rfl, rfl, hq.sq, atI_nat he0, e0, _, _, _, rfl, rfl, SqT.of hp0, rfl, ?_⟩
      generalize hroom : (ps.getD (rg.getLastD 0) (0, 0)).2 = room
      have hbg : (ps.getD (rg.headD 0) (0, 0)).1 = room := by rw [← hroom]; exact hend.symm
      -- arrows from it to itself
      refine ⟨_, rfl, _, rfl, t, n, ps, room, rfl, c7.wt, by omega, fun H8 I s8 nI hI => ?_⟩
      refine ⟨I, rfl, ⟨_, SqL.of hI⟩, fun D hD => ?_⟩
      refine lc_list (K := K) (a := I) (xs := nums (idxs (ps.map (·.1)) room 0)) (fun j H' => ∃ ys : List Nat, H' D = some (.lst (nums ys)) ∧ (∀ y ∈ ys, y < ps.length ∧ (ps.getD y (0, 0)).1 = room) ∧ ys.length ≤ j ∧ Same H8 H')
        ⟨[], upd_same, fun y hy => absurd hy (by simp), Nat.le_refl _, same_new (Same.refl H8) hD⟩ (fun j H' _ ⟨_, _, _, _, s'⟩ => SqL.of (s' _ _ hI)) ?_ ?_
      · rintro j y H' hy ⟨ys, hD', hys, hyl, s'⟩
        obtain ⟨x, hx, rfl⟩ := nums_get' hy
        have hjl : j < (idxs (ps.map (·.1)) room 0).length := (List.getElem?_eq_some_iff.mp hx).1
        have hil := idxs_len room (ps.map (·.1)) 0
        rw [List.length_map] at hil
        obtain ⟨i, ei, hi⟩ := idxs_mem room _ _ _ (List.mem_of_getElem? hx)
        have hxl : x < ps.length := by
          have z := (List.getElem?_eq_some_iff.mp hi).1
          rw [List.length_map] at z
          omega
        have hxb : (ps.getD x (0, 0)).1 = room := by
          rw [show i = x by omega, List.getElem?_map, ps_at hxl] at hi
          exact Option.some.inj hi
        have s87 := s8.trans s'
        obtain ⟨e, he1, he2⟩ := pick x s87 hxl
        refine ⟨rfl, _, rfl, t, _, _, _, rfl, rfl, SqT.of (s87 _ _ ht), rfl, _, rfl, q, _, _, _, rfl, rfl, ((Same.kp s87).f hq).sq, atI_nat he1, e, _, _, _, rfl, rfl, SqT.of he2, rfl, _, rfl, rfl, ?_⟩
        rw [dec_nat]
        by_cases hx2 : (ps.getD x (0, 0)).2 = room
        · refine ⟨true, congrArg V.bl (decide_eq_true hx2), iteT ⟨_, rfl, _, hD', by rw [sizeLine_eq, nums_len]; omega, ys ++ [x], by rw [upd_same, nums_snoc], fun y hy' => ?_, by rw [List.length_append]; show _ + 1 ≤ _; omega, same_put s' hD⟩⟩
          rcases List.mem_append.mp hy' with z | z
          · exact hys y z
          · rw [List.mem_singleton.mp z]
            exact ⟨hxl, hxb⟩
        · exact ⟨false, congrArg V.bl (decide_eq_false hx2), iteF ⟨ys, hD', hys, by omega, s'⟩⟩
      rintro H9 ⟨ys, hD9, hys, hyl, s9⟩
      have s97 := s8.trans s9
      have hyl2 : ys.length ≤ ps.length := by
        have hil := idxs_len room (ps.map (·.1)) 0
        rw [List.length_map] at hil
        rw [nums_len] at hyl
        omega
      refine ⟨_, rfl, u, _, _, _, rfl, rfl, SqT.of (s97 _ _ hu7), rfl, _, rfl, a2, _, rfl, SqL.of (s97 _ _ h27), fun M hM => ?_⟩
      rw [cut_one]
      have s10 : Same H9 (upd H9 M (.lst (nums (rg.take 1)))) := same_new (Same.refl H9) hM
      refine ⟨D, M, _, _, rfl, rfl, s10 _ _ hD9, upd_same, by rw [sizeLine_eq, nums_len, nums_len, List.length_take]; omega, fun Tl hTl => ?_⟩
      have ec : nums ys ++ nums (rg.take 1) = nums (ys ++ rg.take 1) := by unfold nums; rw [List.map_append]
      rw [ec]
      have s11 := same_new s10 (o := .lst (nums (ys ++ rg.take 1))) hTl
      have hT11 : upd (upd H9 M (.lst (nums (rg.take 1)))) Tl (.lst (nums (ys ++ rg.take 1))) Tl = some (.lst (nums (ys ++ rg.take 1))) := upd_same
      generalize upd (upd H9 M (.lst (nums (rg.take 1)))) Tl (.lst (nums (ys ++ rg.take 1))) = H11 at s11 hT11
      have c11 := c7.same (s97.trans s11)
      obtain ⟨x, xs, etl, hx0, hx1⟩ : ∃ x xs, ys ++ rg.take 1 = x :: xs ∧ x < ps.length ∧ (ps.getD x (0, 0)).1 = room := by
        cases ys with
        | nil =>
          cases rg with
          | nil => exact absurd rfl hrn
          | cons x r =>
            refine ⟨x, [], rfl, ?_, hbg⟩
            exact (red_lt hok).2 x List.mem_cons_self
        | cons y yr => exact ⟨y, yr ++ rg.take 1, rfl, hys y List.mem_cons_self⟩
      have ltl : (ys ++ rg.take 1).length ≤ 100 := by rw [List.length_append, List.length_take]; omega
      rw [etl] at hT11 ltl
      -- the walk that goes there, then round that arrow
      obtain ⟨g1, g2, hu11, h111, h211⟩ := id c11.w1
      refine ⟨_, rfl, _, rfl, u, _, _, _, rfl, rfl, SqT.of hu11, rfl, g1, _, rfl, .inl (SqL.of h111), _, rfl, u, _, _, _, rfl, rfl, SqT.of hu11, rfl, g2, _, rfl, .inl (SqL.of h211), _, _, rfl, rfl, .inl ⟨by decide, by decide⟩, _, _, rfl, rfl, u, ah.length + 2 * rg.length, ah, rg, by rw [lah, lrg]; rfl, c11.w1.at, hrn, by omega, by omega, by omega, fun H12 L s12 nL hL => ?_⟩
      refine ⟨_, rfl, _, rfl, Tl, _, rfl, SqL.of (s12 _ _ hT11), fun M2 hM2 => ?_⟩
      have ch : cutV (nums (x :: xs)) none (some 1) = nums [x] := cut_one _
      rw [ch]
      have s13 : Same H12 (upd H12 M2 (.lst (nums [x]))) := same_new (Same.refl H12) hM2
      refine ⟨L, M2, _, _, rfl, rfl, s13 _ _ hL, upd_same, by rw [sizeLine_eq, nums_len, bts_len]; show _ + 1 ≤ _; omega, fun L3 hL3 => ?_⟩
      have ec2 : nums (bts ah rg (ah.length + 2 * rg.length)) ++ nums [x] = nums (bts ah rg (ah.length + 2 * rg.length) ++ [x]) := by unfold nums; rw [List.map_append]
      rw [ec2]
      have s14 := same_new s13 (o := .lst (nums (bts ah rg (ah.length + 2 * rg.length) ++ [x]))) hL3
      refine ⟨by show 0 ≤ sizeLine; decide, fun Z0 hZ0 => ⟨by show 2 ≤ sizeLine; decide, fun v1 hv1 => ?_⟩⟩
      have s15 := same_new s14 (o := .lst []) hZ0
      have hL15 := (same_new (o := .lst []) (Same.refl _) hZ0) _ _ (upd_same (H := upd H12 M2 (.lst (nums [x]))) (a := L3) (o := .lst (nums (bts ah rg (ah.length + 2 * rg.length) ++ [x]))))
      have s16 := same_new s15 (o := .tup [.ref L3, .ref Z0]) hv1
      have hL16 := (same_new (o := .tup [.ref L3, .ref Z0]) (Same.refl _) hv1) _ _ hL15
      have hv16 : upd (upd (upd (upd H12 M2 (.lst (nums [x]))) L3 (.lst (nums (bts ah rg (ah.length + 2 * rg.length) ++ [x])))) Z0 (.lst [])) v1 (.tup [.ref L3, .ref Z0]) v1 = some (.tup [.ref L3, .ref Z0]) := upd_same
      generalize upd (upd (upd (upd H12 M2 (.lst (nums [x]))) L3 (.lst (nums (bts ah rg (ah.length + 2 * rg.length) ++ [x])))) Z0 (.lst [])) v1 (.tup [.ref L3, .ref Z0]) = H16 at s16 hL16 hv16
      have s16a := s12.trans s16
      have c16 := c11.same s16a
      have sp7 := (s97.trans s11).trans s16a
      obtain ⟨e5, he5, hp5⟩ := pick x sp7 hx0
      refine ⟨_, rfl, t, _, _, _, rfl, rfl, SqT.of (sp7 _ _ ht), rfl, _, rfl, Tl, _, _, _, rfl, rfl, SqL.of (s16a _ _ hT11), atI_nat (xs := nums (x :: xs)) (j := 0) rfl, q, _, _, _, rfl, rfl, ((Same.kp sp7).f hq).sq, atI_nat he5, e5, _, _, _, rfl, rfl, SqT.of hp5, rfl, _, rfl, rfl, ?_⟩
      rw [dec_nat]
      by_cases hx2 : (ps.getD x (0, 0)).2 = room
      · refine ⟨true, congrArg V.bl (decide_eq_true hx2), iteT ?_⟩
        refine ⟨_, rfl, v1, _, _, _, rfl, rfl, SqT.of hv16, rfl, _, rfl, _, rfl, Tl, _, rfl, SqL.of (s16a _ _ hT11), fun M5 hM5 => ⟨by show 2 ≤ sizeLine; decide, fun v2' hv2' => ?_⟩⟩
        rw [ch] at hv2'
        rw [ch]
        have s17 := same_new (same_new (o := .lst (nums [x])) (Same.refl H16) hM5) (o := .tup [.ref L3, .ref M5]) hv2'
        refine ⟨v2', bts ah rg (ah.length + 2 * rg.length) ++ [x], [x], _, _, rfl, (c16.same s17).other ⟨L3, M5, upd_same, s17 _ _ hL16, ?_⟩, by simp, okW_tail hrn hok (bts_len _ _ _) (fun i hi => bts_getD (by rw [bts_len] at hi; exact hi)) hx0 (hx1.trans hroom.symm) (hx2.trans hroom.symm), by rw [List.length_append, bts_len]; show _ + 1 ≤ _; omega, by show 1 ≤ 100; decide⟩
        exact (upd_ne (ne_of_none upd_same hv2')).trans upd_same
      · refine ⟨false, congrArg V.bl (decide_eq_false hx2), iteF ⟨_, rfl, u, ah, rg, _, _, rfl, c16.other c16.w1, hrn, hok, by omega, by omega⟩⟩
    clear c5
    rintro σ H6 ⟨v, bh, br, x6, x7, rfl, c6, hbrn, hokb, lbh, lbr⟩
    obtain ⟨a1, a2, hu, h1, h2⟩ := id c6.w1
    obtain ⟨b1', b2', hv, g1, g2⟩ := id c6.w2
    have lbh2 := nums_len bh
    have lbr2 := nums_len br
    -- beats enough
    refine ⟨_, rfl, u, _, _, _, rfl, rfl, SqT.of hu, rfl, a1, _, rfl, .inl (SqL.of h1), _, rfl, v, _, _, _, rfl, rfl, SqT.of hv, rfl, b1', _, rfl, .inl (SqL.of g1), _, _, rfl, rfl, _, rfl, u, _, _, _, rfl, rfl, SqT.of hu, rfl, a2, _, rfl, .inl (SqL.of h2), _, _, rfl, rfl, _, rfl, v, _, _, _, rfl, rfl, SqT.of hv, rfl, b2', _, rfl, .inl (SqL.of g2), _, _, rfl, rfl, ?_⟩
    have em : (((nums ah).length : Nat) : Int) + (((nums bh).length : Nat) : Int) + (((nums rg).length : Nat) : Int) + (((nums br).length : Nat) : Int) = ((ah.length + bh.length + rg.length + br.length : Nat) : Int) := by rw [lah, lrg, lbh2, lbr2]; rfl
    generalize hmm : ah.length + bh.length + rg.length + br.length = m at em
    refine ⟨_, rfl, _, rfl, u, m, ah, rg, by rw [← em]; rfl, c6.w1.at, hrn, by omega, by omega, by omega, fun H7 L1 s7' nL1 hL1 => ?_⟩
    have c7 := c6.same s7'
    refine ⟨_, rfl, _, rfl, v, m, bh, br, by rw [← em]; rfl, c7.w2.at, hbrn, by omega, by omega, by omega, fun H8 L2 s8' nL2 hL2 => ?_⟩
    have c8 := c7.same s8'
    refine ⟨rowL _, rowL _, dp_rowL (SqL.of (s8' _ _ hL1)), dp_rowL (SqL.of hL2), rowL_shaped _, rowL_shaped _, ?_⟩
    rw [rowL_eqv]
    have hdue : bts ah rg m = bts bh br m ↔ ∀ i, beat ah rg i = beat bh br i := by
      constructor
      · intro e
        refine beats_fine hrn hbrn (m := m) (by omega) fun i hi => ?_
        have z := congrArg (fun l => List.getD l i 0) e
        rw [bts_getD hi, bts_getD hi] at z
        exact z
      · intro e
        unfold bts
        exact List.map_congr_left fun i _ => e i
    -- the walkers
    refine ⟨_, rfl, _, rfl, t, u, n, ps, ah, rg, rfl, c8.wt.u, by omega, by omega, c8.w1.at, hrn, hok, by omega, by omega, fun H9 z fh fr hZ9 hbt l1 l2 s9 nz => ?_⟩
    have c9 := c8.same s9
    refine ⟨_, rfl, _, rfl, t, v, n, ps, bh, br, rfl, c9.wt.u, by omega, by omega, c9.w2.at, hbrn, hokb, by omega, by omega, fun H10 y gh gr hY10 hbt2 l12 l22 s10 ny => ⟨_, _, rfl, ?_⟩⟩
    have c10 := c9.same s10
    have hZ10 := hZ9.same s10
    obtain ⟨dz, _, _, _, hz, _, _, _, hred, _⟩ := id hZ10
    obtain ⟨dy, _, _, _, hy, _, _, _, hred2, _⟩ := id hY10
    have heq : (fh = gh ∧ fr = gr) ↔ bts ah rg m = bts bh br m := by
      rw [hdue]
      constructor
      · rintro ⟨q1, q2⟩ i
        rw [← hbt i, ← hbt2 i, q1, q2]
      · exact fun e => red_one hred hred2 fun i => by rw [hbt, hbt2]; exact e i
    have d1 : decide ((n = n ∧ ps = ps) ∧ fh = gh ∧ fr = gr) = decide (bts ah rg m = bts bh br m) := by
      by_cases q : bts ah rg m = bts bh br m
      · rw [decide_eq_true q, decide_eq_true ⟨⟨rfl, rfl⟩, heq.mpr q⟩]
      · rw [decide_eq_false q, decide_eq_false fun x => q (heq.mp x.2)]
    have d2 : decide ((n = n ∧ ps = ps) ∧ gh = fh ∧ gr = fr) = decide (bts ah rg m = bts bh br m) := by
      rw [← d1]
      by_cases q : fh = gh ∧ fr = gr
      · rw [decide_eq_true ⟨⟨rfl, rfl⟩, q.1.symm, q.2.symm⟩, decide_eq_true ⟨⟨rfl, rfl⟩, q⟩]
      · rw [decide_eq_false fun x => q ⟨x.2.1.symm, x.2.2.symm⟩, decide_eq_false fun x => q x.2]
    generalize hD : decide (bts ah rg m = bts bh br m) = dd at d1 d2
    -- equal just where
    refine ⟨_, rfl, _, rfl, z, y, dz, _, rfl, rfl, hz, .inl ⟨_, _, hy⟩, z, y, n, ps, fh, fr, rfl, hZ10, .inl ⟨n, ps, gh, gr, hY10, _, rfl, _, rfl, rfl, false, ?_, iteF ?_⟩⟩
    · rw [d1, decide_eq_true rfl]
      rfl
    refine ⟨_, rfl, _, rfl, y, z, dy, _, rfl, rfl, hy, .inl ⟨_, _, hz⟩, y, z, n, ps, gh, gr, rfl, hY10, .inl ⟨n, ps, fh, fr, hZ10, _, rfl, _, rfl, rfl, false, ?_, iteF ?_⟩⟩
    · rw [d2, decide_eq_true rfl]
      rfl
    refine ⟨_, rfl, _, rfl, z, y, dz, dy, _, _, rfl, rfl, hz, hy, z, y, n, ps, fh, fr, rfl, hZ10, .inl ⟨n, ps, gh, gr, hY10, _, rfl, _, rfl, rfl, false, ?_, iteF ?_⟩⟩
    · rw [d1]
      cases dd <;> rfl
    -- another web
    obtain ⟨q, as, ht, hq, hP, _⟩ := id c10.wt
    have hal : as.length = ps.length := Paired.length hP
    have hps : 1 ≤ ps.length := by omega
    refine ⟨_, rfl, t, _, _, _, rfl, rfl, SqT.of ht, rfl, _, rfl, t, _, _, _, rfl, rfl, SqT.of ht, rfl, by show 2 ≤ sizeLine; decide, fun N1 hN1 => ⟨by show 1 ≤ sizeLine; decide, fun N2 hN2 => ?_⟩⟩
    have t1 : Same H10 (upd H10 N1 (.tup [.int 0, .int 0])) := same_new (Same.refl H10) hN1
    have t2 := same_new t1 (o := .tup [.ref N1]) hN2
    have hN12 : upd (upd H10 N1 (.tup [.int 0, .int 0])) N2 (.tup [.ref N1]) N1 = some (.tup [.int 0, .int 0]) := (upd_ne (ne_of_none upd_same hN2)).trans upd_same
    refine ⟨q, N2, _, _, rfl, rfl, ((Same.kp t2).f hq).sq, SqT.of upd_same, by rw [sizeLine_eq, hal]; show _ + 1 ≤ _; omega, fun z0 => ?_, fun _ z0 => ?_, fun _ _ N3 hN3 => ?_⟩
    · have q0 := congrArg List.length z0
      rw [hal] at q0
      exact absurd (show ps.length = 0 from q0) (by omega)
    · cases z0
    have t3 := same_new t2 (o := .tup (as ++ [.ref N1])) hN3
    have hN13 := (same_new (o := .tup (as ++ [.ref N1])) (Same.refl _) hN3) _ _ hN12
    have hN33 : upd (upd (upd H10 N1 (.tup [.int 0, .int 0])) N2 (.tup [.ref N1])) N3 (.tup (as ++ [.ref N1])) N3 = some (.tup (as ++ [.ref N1])) := upd_same
    generalize upd (upd (upd H10 N1 (.tup [.int 0, .int 0])) N2 (.tup [.ref N1])) N3 (.tup (as ++ [.ref N1])) = H11 at t3 hN13 hN33
    refine ⟨by show 2 ≤ sizeLine; decide, fun t' ht' => ?_⟩
    have t4 : Same H11 (upd H11 t' (.tup [.int n, .ref N3])) := same_new (Same.refl H11) ht'
    have hW12 : WebU K (upd H11 t' (.tup [.int n, .ref N3])) t' n (ps ++ [(0, 0)]) := ⟨N3, as ++ [.ref N1], SqT.of upd_same, SqT.of (t4 _ _ hN33), paired_snoc (PairsIn.kp (Same.kp (t3.trans t4)) hP) ⟨N1, rfl, t4 _ _ hN13⟩, good_more hG⟩
    have c12 := c10.same (t3.trans t4)
    have hZ12 := hZ10.same (t3.trans t4)
    have hY12 := hY10.same (t3.trans t4)
    generalize upd H11 t' (.tup [.int n, .ref N3]) = H12 at t4 hW12 c12 hZ12 hY12
    refine ⟨_, rfl, _, rfl, _, rfl, t', u, n, ps ++ [(0, 0)], ah, rg, rfl, hW12, by omega, by rw [List.length_append]; show _ + 1 ≤ _; omega, c12.w1.at, hrn, okW_more hok, by omega, by omega, fun H13 z3 kh kr hZ3 hbt3 l13 l23 s13 nz3 => ?_⟩
    have hZ13 := hZ12.same s13
    obtain ⟨dz3, _, _, _, hz3, _⟩ := id hZ3
    obtain ⟨dz13, _, _, _, hz13, _⟩ := id hZ13
    have c13 := c12.same s13
    refine ⟨z, z3, dz13, _, rfl, rfl, hz13, .inl ⟨_, _, hz3⟩, z, z3, n, ps, fh, fr, rfl, hZ13, .inl ⟨n, ps ++ [(0, 0)], kh, kr, hZ3, _, rfl, false, ?_, iteF ?_⟩⟩
    · refine congrArg V.bl (decide_eq_false fun x => ?_)
      have := congrArg List.length x.1.2
      rw [List.length_append] at this
      exact absurd this (by simp)
    refine ⟨_, rfl, _, rfl, _, rfl, t, u, n, ps, ah, rg, rfl, c13.wt.u, by omega, by omega, c13.w1.at, hrn, hok, by omega, by omega, fun H14 z4 mh mr hZ4 hbt4 l14 l24 s14 nz4 => ?_⟩
    have hZ14 := hZ13.same s14
    have hY14 := (hY12.same s13).same s14
    have c14 := c13.same s14
    obtain ⟨dz4, _, _, _, hz4, _, _, _, hred4, _⟩ := id hZ4
    obtain ⟨dz14, _, _, _, hz14, _⟩ := id hZ14
    obtain ⟨dy14, _, _, _, hy14, _⟩ := id hY14
    refine ⟨z, z4, dz14, dz4, _, _, rfl, rfl, hz14, hz4, z, z4, n, ps, fh, fr, rfl, hZ14, .inl ⟨n, ps, mh, mr, hZ4, _, rfl, false, ?_, iteF ?_⟩⟩
    · obtain ⟨e1, e2⟩ := red_one hred hred4 fun i => (hbt i).trans (hbt4 i).symm
      rw [decide_eq_true ⟨⟨rfl, rfl⟩, e1, e2⟩]
      rfl
    -- a far beat
    refine ⟨_, rfl, dd, rfl, ?_⟩
    have endP : (∃ v2 v3 v4 v5 v6 v7 v8 v9 v10 v11 v12 : Option V, [some (V.ref a), some (.ref b), some (.int (0 + (i0 : Nat))), some (.ref t), some (.ref u), some (.ref v), x6, x7, some (.int ((((nums ah).length : Nat) : Int) + (((nums bh).length : Nat) : Int) + (((nums rg).length : Nat) : Int) + (((nums br).length : Nat) : Int))), some (.bl dd), some (.ref z), some (.ref y), some (.ref t'), none] = [some (.ref a), some (.ref b), v2, v3, v4, v5, v6, v7, v8, v9, v10, v11, v12, none]) ∧ BagAt b l ms H14 := ⟨⟨_, _, _, _, _, _, _, _, _, _, _, rfl⟩, c14.bag⟩
    cases hdd : dd with
    | false => 
      subst hdd
      exact iteF (iteF endP)
    | true =>
      subst hdd
      have hE : bts ah rg m = bts bh br m := of_decide_eq_true hD
      refine iteT ⟨_, rfl, z, dz14, _, rfl, hz14, kf_meth _ _ _ (by decide +kernel), _, _, rfl, rfl, ⟨by decide, by decide, by decide⟩, z, n, ps, fh, fr, 10 ^ 20, rfl, hZ14, _, rfl, y, dy14, _, rfl, hy14, kf_meth _ _ _ (by decide +kernel), _, _, rfl, rfl, ⟨by decide, by decide, by decide⟩, y, n, ps, gh, gr, 10 ^ 20, rfl, hY14, rfl, false, ?_, iteF endP⟩
      rw [hbt, hbt2, (hdue.mp hE) _, decide_eq_true rfl]
      rfl
end
end KW


set_option Elab.async false
set_option maxRecDepth 100000
set_option maxHeartbeats 4000000
/-! The end. -/
namespace KW
open PySem PySem.Spec PyProof.Rows L2 LamX
theorem kit_own {K : PySem.W.Frag} {C : Addr} : PySem.W.kitOne K (.ref C) (.ref C) = some true := by
  unfold PySem.W.kitOne
  rw [if_pos (by simp)]
theorem kit_of {K : PySem.W.Frag} {C : Addr} {t : Value} {r : Bool} (h1 : PySem.W.isClsIn K C = true) (h2 : PySem.W.typeIn K (.ref C) = some (.type "type")) (h3 : (t == .ref C) = false) (h4 : PySem.W.subIn K t (.ref C) = some r) : PySem.W.kitOne K t (.ref C) = some r := by
  unfold PySem.W.kitOne PySem.W.kitCls
  rw [h3, if_neg (by decide)]
  have e : ((PySem.W.clsIn K C).isSome && PySem.W.typeIn K (.ref C) == some (.type "type")) = true := by
    rw [h2, show (PySem.W.clsIn K C).isSome = true from h1]
    simp
  show (if ((PySem.W.clsIn K C).isSome && PySem.W.typeIn K (.ref C) == some (.type "type")) = true then PySem.W.subIn K t (.ref C) else none) = some r
  rw [if_pos e]
  exact h4
theorem ref_ne {a b : Addr} (h : a ≠ b) : (Value.ref a == Value.ref b) = false := by simp [h]
theorem exm1 {K : PySem.W.Frag} {t c1 : Value} {b1 : Bool} (h1 : PySem.W.exmOne K t c1 = some b1) : PySem.W.exmAny K t [c1] = some b1 := by
  unfold PySem.W.exmAny PySem.W.exmAny
  rw [h1]
  simp
theorem exm2 {K : PySem.W.Frag} {t c1 c2 : Value} {b1 b2 : Bool} (h1 : PySem.W.exmOne K t c1 = some b1) (h2 : PySem.W.exmOne K t c2 = some b2) : PySem.W.exmAny K t [c1, c2] = some (b1 || b2) := by
  unfold PySem.W.exmAny
  rw [h1, exm1 h2]
theorem exm3 {K : PySem.W.Frag} {t c1 c2 c3 : Value} {b1 b2 b3 : Bool} (h1 : PySem.W.exmOne K t c1 = some b1) (h2 : PySem.W.exmOne K t c2 = some b2) (h3 : PySem.W.exmOne K t c3 = some b3) : PySem.W.exmAny K t [c1, c2, c3] = some (b1 || (b2 || b3)) := by
  unfold PySem.W.exmAny
  rw [h1, exm2 h2 h3]
def dA1 : He.DefD := ⟨("is_pair", none), "is_pair", "is_pair", defArgs sIsPair, defBody sIsPair, defScope sIsPair, [], []⟩
def dA2 : He.DefD := ⟨("pairs_of", none), "pairs_of", "pairs_of", defArgs sPairsOf, defBody sPairsOf, defScope sPairsOf, [], []⟩
def dA3 : He.DefD := ⟨("gathered", none), "gathered", "gathered", defArgs sGathered, defBody sGathered, defScope sGathered, [], []⟩
def dA4 : He.DefD := ⟨("_law_bag", none), "_law_bag", "_law_bag", defArgs sBag, defBody sBag, defScope sBag, [], []⟩
def dA5 : He.DefD := ⟨("_law_pull", none), "_law_pull", "_law_pull", defArgs sPull, defBody sPull, defScope sPull, [], []⟩
def dA6 : He.DefD := ⟨("_law_of", none), "_law_of", "_law_of", defArgs sOf, defBody sOf, defScope sOf, [], []⟩
def dA7 : He.DefD := ⟨("_law_mixed", none), "_law_mixed", "_law_mixed", defArgs sMixed, defBody sMixed, defScope sMixed, [], []⟩
def dA8 : He.DefD := ⟨("_law_web", none), "_law_web", "_law_web", defArgs sWeb, defBody sWeb, defScope sWeb, [], []⟩
def dA9 : He.DefD := ⟨("_law_made", none), "_law_made", "_law_made", defArgs sMade, defBody sMade, defScope sMade, [], []⟩
def dD1 : He.DefD := ⟨("_law_outs", none), "_law_outs", "_law_outs", defArgs sLOuts, defBody sLOuts, defScope sLOuts, [], []⟩
def dD3 : He.DefD := ⟨("_law_on", none), "_law_on", "_law_on", defArgs sLOn, defBody sLOn, defScope sLOn, [], []⟩
def dD4 : He.DefD := ⟨("_law_walk", none), "_law_walk", "_law_walk", defArgs sLWalk, defBody sLWalk, defScope sLWalk, [], []⟩
def dD6 : He.DefD := ⟨("_law_beats", none), "_law_beats", "_law_beats", defArgs sLBeats, defBody sLBeats, defScope sLBeats, [], []⟩
def dD7 : He.DefD := ⟨("_law_walker", none), "_law_walker", "_law_walker", defArgs sLWalker, defBody sLWalker, defScope sLWalker, [], []⟩
def dP1 : He.DefD := ⟨("need_walk", none), "need_walk", "need_walk", defArgs sNeedWalk, defBody sNeedWalk, defScope sNeedWalk, [], []⟩
def dP2 : He.DefD := ⟨("shortest", none), "shortest", "shortest", defArgs sShortest, defBody sShortest, defScope sShortest, [], []⟩
def dP3 : He.DefD := ⟨("turned", none), "turned", "turned", defArgs sTurned, defBody sTurned, defScope sTurned, [], []⟩
def dP4 : He.DefD := ⟨("least_walk", none), "least_walk", "least_walk", defArgs sLeastWalk, defBody sLeastWalk, defScope sLeastWalk, [], []⟩
def dM1 : He.DefD := ⟨("Web", some "__init__"), "__init__", "Web.__init__", defArgs sInit, defBody sInit, defScope sInit, [], []⟩
def dM2 : He.DefD := ⟨("Web", some "__eq__"), "__eq__", "Web.__eq__", defArgs sEq, defBody sEq, defScope sEq, [], []⟩
def dM5 : He.DefD := ⟨("Web", some "has_arrow"), "has_arrow", "Web.has_arrow", defArgs sHas, defBody sHas, defScope sHas, [], []⟩
def dM6 : He.DefD := ⟨("Web", some "follows"), "follows", "Web.follows", defArgs sFollows, defBody sFollows, defScope sFollows, [], []⟩
def dM7 : He.DefD := ⟨("Web", some "wrong_place"), "wrong_place", "Web.wrong_place", defArgs sWrongPl, defBody sWrongPl, defScope sWrongPl, [], []⟩
def dW1 : He.DefD := ⟨("Walker", some "__init__"), "__init__", "Walker.__init__", defArgs sWkInit, defBody sWkInit, defScope sWkInit, [], []⟩
def dW2 : He.DefD := ⟨("Walker", some "__eq__"), "__eq__", "Walker.__eq__", defArgs sWkEq, defBody sWkEq, defScope sWkEq, [], []⟩
def dW7 : He.DefD := ⟨("Walker", some "arrow"), "arrow", "Walker.arrow", defArgs sWkArrow, defBody sWkArrow, defScope sWkArrow, [], []⟩
def dLW : He.DefD := ⟨("law", none), "law", "law", defArgs sLaw, defBody sLaw, defScope sLaw, [], []⟩
def fa0 : List Fct := [
  fun K => decide (PySem.W.nsIn K mainGlobals "len" = some none),
  fun K => decide (PySem.W.nsIn K mainGlobals "list" = some none),
  fun K => decide (PySem.W.nsIn K mainGlobals "tuple" = some none),
  fun K => decide (PySem.W.nsIn K mainGlobals "range" = some none),
  fun K => decide (PySem.W.nsIn K mainGlobals "enumerate" = some none),
  fun K => decide (PySem.W.nsIn K mainGlobals "isinstance" = some none),
  fun K => decide (PySem.W.nsIn K mainGlobals "Web" = some (some (.ref (He.ga K "Web")))),
  fun K => PySem.W.plainGet K (He.ga K "Web") Str.empty,
  fun K => PySem.W.hasDictIn K (He.ga K "Web"),
  fun K => PySem.W.plainOver K (He.ga K "Web"),
  fun K => decide (PySem.W.findIn K (.ref (He.ga K "Web")) "__setattr__" = some (some (.builtin "object.__setattr__"))),
  fun K => PySem.W.makesIn K (He.ga K "Web"),
  fun K => PySem.W.keepIn K (.ref (He.ga K "Web")),
  fun K => decide (PySem.W.findIn K (.ref (He.ga K "Web")) "room_total" = some none),
  fun K => decide (PySem.W.findIn K (.ref (He.ga K "Web")) "pairs" = some none),
  fun K => decide (PySem.W.findIn K (.ref (He.ga K "Web")) "leaving" = some none),
  fun K => decide (PySem.W.findIn K (.ref (He.ga K "Web")) "entering" = some none),
  fun K => decide (PySem.W.findIn K (.ref (He.ga K "Web")) "__class__" = some (some (.builtin "object.__class__"))),
  fun K => decide (PySem.W.mroIn K (He.ga K "Web") (.type "object") = some true),
  fun K => PySem.W.isClsIn K (He.ga K "Web"),
  fun K => decide (PySem.W.typeIn K (.ref (He.ga K "Web")) = some (.type "type")),
  fun K => decide (PySem.W.subIn K (.type "tuple") (.ref (He.ga K "Web")) = some false),
  fun K => PySem.W.notFirst K (He.ga K "Web") (.type "tuple"),
  fun K => decide (PySem.W.findIn K (.ref (He.ga K "Web")) "__ne__" = some (some (.builtin "object.__ne__"))),
  fun K => decide (PySem.W.specialIn K (.builtin "object.__class__") "__get__" = some (some (.builtin "getset_descriptor.__get__"))),
  fun K => decide (PySem.W.takesIn K (.builtin "object.__class__") = some true),
  fun K => decide (PySem.W.nsIn K mainGlobals "Walker" = some (some (.ref (He.ga K "Walker")))),
  fun K => PySem.W.plainGet K (He.ga K "Walker") Str.empty,
  fun K => PySem.W.hasDictIn K (He.ga K "Walker"),
  fun K => PySem.W.plainOver K (He.ga K "Walker"),
  fun K => decide (PySem.W.findIn K (.ref (He.ga K "Walker")) "__setattr__" = some (some (.builtin "object.__setattr__"))),
  fun K => PySem.W.makesIn K (He.ga K "Walker"),
  fun K => PySem.W.keepIn K (.ref (He.ga K "Walker")),
  fun K => decide (PySem.W.findIn K (.ref (He.ga K "Walker")) "home" = some none),
  fun K => decide (PySem.W.findIn K (.ref (He.ga K "Walker")) "lead" = some none),
  fun K => decide (PySem.W.findIn K (.ref (He.ga K "Walker")) "loop" = some none),
  fun K => decide (PySem.W.findIn K (.ref (He.ga K "Walker")) "__class__" = some (some (.builtin "object.__class__"))),
  fun K => decide (PySem.W.mroIn K (He.ga K "Walker") (.type "object") = some true),
  fun K => PySem.W.isClsIn K (He.ga K "Walker"),
  fun K => decide (PySem.W.typeIn K (.ref (He.ga K "Walker")) = some (.type "type")),
  fun K => decide (PySem.W.subIn K (.type "tuple") (.ref (He.ga K "Walker")) = some false),
  fun K => PySem.W.notFirst K (He.ga K "Walker") (.type "tuple"),
  fun K => decide (PySem.W.findIn K (.ref (He.ga K "Walker")) "__ne__" = some (some (.builtin "object.__ne__"))),
  fun K => decide (PySem.W.nsIn K mainGlobals "is_pair" = some (some (.ref (He.ga K "is_pair")))),
  fun K => decide (PySem.W.nsIn K mainGlobals "pairs_of" = some (some (.ref (He.ga K "pairs_of")))),
  fun K => decide (PySem.W.nsIn K mainGlobals "gathered" = some (some (.ref (He.ga K "gathered")))),
  fun K => decide (PySem.W.nsIn K mainGlobals "_law_bag" = some (some (.ref (He.ga K "_law_bag")))),
  fun K => decide (PySem.W.nsIn K mainGlobals "_law_pull" = some (some (.ref (He.ga K "_law_pull")))),
  fun K => decide (PySem.W.nsIn K mainGlobals "_law_of" = some (some (.ref (He.ga K "_law_of")))),
  fun K => decide (PySem.W.nsIn K mainGlobals "_law_mixed" = some (some (.ref (He.ga K "_law_mixed")))),
  fun K => decide (PySem.W.nsIn K mainGlobals "_law_web" = some (some (.ref (He.ga K "_law_web")))),
  fun K => decide (PySem.W.nsIn K mainGlobals "_law_made" = some (some (.ref (He.ga K "_law_made")))),
  fun K => decide (PySem.W.nsIn K mainGlobals "_law_outs" = some (some (.ref (He.ga K "_law_outs")))),
  fun K => decide (PySem.W.nsIn K mainGlobals "_law_on" = some (some (.ref (He.ga K "_law_on")))),
  fun K => decide (PySem.W.nsIn K mainGlobals "_law_walk" = some (some (.ref (He.ga K "_law_walk")))),
  fun K => decide (PySem.W.nsIn K mainGlobals "_law_beats" = some (some (.ref (He.ga K "_law_beats")))),
  fun K => decide (PySem.W.nsIn K mainGlobals "_law_walker" = some (some (.ref (He.ga K "_law_walker")))),
  fun K => decide (PySem.W.nsIn K mainGlobals "need_walk" = some (some (.ref (He.ga K "need_walk")))),
  fun K => decide (PySem.W.nsIn K mainGlobals "shortest" = some (some (.ref (He.ga K "shortest")))),
  fun K => decide (PySem.W.nsIn K mainGlobals "turned" = some (some (.ref (He.ga K "turned"))))]
def fa1 : List Fct := [
  fun K => decide (PySem.W.nsIn K mainGlobals "least_walk" = some (some (.ref (He.ga K "least_walk")))),
  fun K => decide (PySem.W.findIn K (.ref (He.ga K "Web")) "__init__" = some (some (.ref (He.ma K (He.ga K "Web") "__init__")))),
  fun K => PySem.W.isFn K (.ref (He.ma K (He.ga K "Web") "__init__")),
  fun K => decide (PySem.W.findIn K (.ref (He.ga K "Web")) "__eq__" = some (some (.ref (He.ma K (He.ga K "Web") "__eq__")))),
  fun K => PySem.W.isFn K (.ref (He.ma K (He.ga K "Web") "__eq__")),
  fun K => decide (PySem.W.findIn K (.ref (He.ga K "Web")) "has_arrow" = some (some (.ref (He.ma K (He.ga K "Web") "has_arrow")))),
  fun K => PySem.W.isFn K (.ref (He.ma K (He.ga K "Web") "has_arrow")),
  fun K => decide (PySem.W.findIn K (.ref (He.ga K "Web")) "follows" = some (some (.ref (He.ma K (He.ga K "Web") "follows")))),
  fun K => PySem.W.isFn K (.ref (He.ma K (He.ga K "Web") "follows")),
  fun K => decide (PySem.W.findIn K (.ref (He.ga K "Web")) "wrong_place" = some (some (.ref (He.ma K (He.ga K "Web") "wrong_place")))),
  fun K => PySem.W.isFn K (.ref (He.ma K (He.ga K "Web") "wrong_place")),
  fun K => decide (PySem.W.findIn K (.ref (He.ga K "Walker")) "__init__" = some (some (.ref (He.ma K (He.ga K "Walker") "__init__")))),
  fun K => PySem.W.isFn K (.ref (He.ma K (He.ga K "Walker") "__init__")),
  fun K => decide (PySem.W.findIn K (.ref (He.ga K "Walker")) "__eq__" = some (some (.ref (He.ma K (He.ga K "Walker") "__eq__")))),
  fun K => PySem.W.isFn K (.ref (He.ma K (He.ga K "Walker") "__eq__")),
  fun K => decide (PySem.W.findIn K (.ref (He.ga K "Walker")) "arrow" = some (some (.ref (He.ma K (He.ga K "Walker") "arrow")))),
  fun K => PySem.W.isFn K (.ref (He.ma K (He.ga K "Walker") "arrow")),
  fun K => (He.Fa.int "MOST_ROOMS" 100).ok K,
  fun K => (He.Fa.int "MOST_ARROWS" 400).ok K,
  fun K => decide (PySem.W.nsIn K mainGlobals "law" = some (some (.ref (He.ga K "law"))))]
def faAll : List Fct := fa0 ++ fa1
def fnAll : List He.DefD := [dA1, dA2, dA3, dA4, dA5, dA6, dA7, dA8, dA9, dD1, dD3, dD4, dD6, dD7, dP1, dP2, dP3, dP4, dM1, dM2, dM5, dM6, dM7, dW1, dW2, dW7, dLW]
def lo0 : List Str := ["_wall", "__name__", "FoldError", "BadWeb", "BadRoom", "BadArrow", "BadWalk", "BadBeat", "BadWindow", "TooMany", "MOST_FIRST", "need_walk", "shortest", "turned", "least_walk", "walk_text", "Walker", "MOST_ROOMS", "MOST_ARROWS", "MOST_ROWS", "MOST_WINDOW", "MOST_LENGTH", "is_pair", "pairs_of", "gathered", "Web", "_law_bag", "_law_pull", "_law_of", "_law_mixed"]
def lo1 : List Str := ["_law_web", "_law_made", "_law_outs", "_law_on", "_law_beats", "_law_walk", "_law_walker"]
def loAll : List Str := lo0 ++ lo1
abbrev RR : PySem.W.OpenRow := PySem.W.OpenLaw.row PySem.Challenge.rw_aheadfold_k09_whole_walkers_are_equal_wh
abbrev hkM : PySem.W.Hook := hookM 4 faAll fnAll
def obM (st : PySem.W.SharedT) : He.AlD := obsMG 4 faAll fnAll (HandSHeadRun.getT st)
theorem obM_eq (st : PySem.W.SharedT) : obM st = hkM.obs st.abs := obsMG_eq (HandSHeadRun.getT_eq st)
set_option maxHeartbeats 0 in
theorem runM (w : World) : HandSHeadRun.RunEq RR (PySem.W.view RR.prog [40]) hkM obM 20000 loAll w := by
  intro os
  kernel_rfl
theorem factsM {l : PySem.W.OpenLaw} {w : World} {K : PySem.W.Frag} {h : Heap} {mg : Str → Option Value} {fa : Addr} (X : K.In h) (G : h.Ns mainGlobals mg) (hfa : mg "law" = some (.ref fa)) (c : SaysM faAll fnAll K) :
    ∃ (fd : FuncData) (sp : Sp), (∀ (s : Shared) (u : Value), BindsTo s fd ⟨[u], []⟩ [("_law_script", u)]) ∧ (∀ (H : Hp) (a : Addr) (ns : List Int), ns.length ≤ 63 → Only H → SqL K H a (ns.map V.int) → sp [.ref a] H (fun v _ => v = .bl true) fun _ _ _ => False) ∧ ∀ base : Heap, K.In base → base.Ns mainGlobals mg → FnOk l.prog w K mg base L2.CX0 7 fa fd ["_law_script"] sp := by
  have zlen : PySem.W.nsIn K mainGlobals "len" = some none := of_decide_eq_true (c.fact 0 rfl)
  have glen := PySem.W.mg_none_of X G zlen
  have zlist : PySem.W.nsIn K mainGlobals "list" = some none := of_decide_eq_true (c.fact 1 rfl)
  have glist := PySem.W.mg_none_of X G zlist
  have ztuple : PySem.W.nsIn K mainGlobals "tuple" = some none := of_decide_eq_true (c.fact 2 rfl)
  have gtuple := PySem.W.mg_none_of X G ztuple
  have zrange : PySem.W.nsIn K mainGlobals "range" = some none := of_decide_eq_true (c.fact 3 rfl)
  have grange := PySem.W.mg_none_of X G zrange
  have zenumerate : PySem.W.nsIn K mainGlobals "enumerate" = some none := of_decide_eq_true (c.fact 4 rfl)
  have genumerate := PySem.W.mg_none_of X G zenumerate
  have zisinstance : PySem.W.nsIn K mainGlobals "isinstance" = some none := of_decide_eq_true (c.fact 5 rfl)
  have gisinstance := PySem.W.mg_none_of X G zisinstance
  have aC : PySem.W.nsIn K mainGlobals "Web" = some (some (.ref (He.ga K "Web"))) := of_decide_eq_true (c.fact 6 rfl)
  have mC := PySem.W.mg_of X G aC
  have Cpg : PySem.W.plainGet K (He.ga K "Web") Str.empty = true := c.fact 7 rfl
  have Chd : PySem.W.hasDictIn K (He.ga K "Web") = true := c.fact 8 rfl
  have Cpo : PySem.W.plainOver K (He.ga K "Web") = true := c.fact 9 rfl
  have Csa : PySem.W.findIn K (.ref (He.ga K "Web")) "__setattr__" = some (some (.builtin "object.__setattr__")) := of_decide_eq_true (c.fact 10 rfl)
  have Cmk : PySem.W.makesIn K (He.ga K "Web") = true := c.fact 11 rfl
  have Ckc : PySem.W.keepIn K (.ref (He.ga K "Web")) = true := c.fact 12 rfl
  have Cn0 : PySem.W.findIn K (.ref (He.ga K "Web")) "room_total" = some none := of_decide_eq_true (c.fact 13 rfl)
  have Cn1 : PySem.W.findIn K (.ref (He.ga K "Web")) "pairs" = some none := of_decide_eq_true (c.fact 14 rfl)
  have Cn2 : PySem.W.findIn K (.ref (He.ga K "Web")) "leaving" = some none := of_decide_eq_true (c.fact 15 rfl)
  have Cn3 : PySem.W.findIn K (.ref (He.ga K "Web")) "entering" = some none := of_decide_eq_true (c.fact 16 rfl)
  have Ccl : Cls K (He.ga K "Web") := ⟨Cpg, Chd, Cpo, Csa⟩
  have T : WebC K (He.ga K "Web") := ⟨Ccl, Cn0, Cn1, Cn2, Cn3⟩
  have Cha : PySem.W.findIn K (.ref (He.ga K "Web")) "__class__" = some (some (.builtin "object.__class__")) := of_decide_eq_true (c.fact 17 rfl)
  have Chm : PySem.W.mroIn K (He.ga K "Web") (.type "object") = some true := of_decide_eq_true (c.fact 18 rfl)
  have CkI : PySem.W.isClsIn K (He.ga K "Web") = true := c.fact 19 rfl
  have CkY : PySem.W.typeIn K (.ref (He.ga K "Web")) = some (.type "type") := of_decide_eq_true (c.fact 20 rfl)
  have CkS : PySem.W.subIn K (.type "tuple") (.ref (He.ga K "Web")) = some false := of_decide_eq_true (c.fact 21 rfl)
  have Cnf : PySem.W.notFirst K (He.ga K "Web") (.type "tuple") = true := c.fact 22 rfl
  have Cne : PySem.W.findIn K (.ref (He.ga K "Web")) "__ne__" = some (some (.builtin "object.__ne__")) := of_decide_eq_true (c.fact 23 rfl)
  have xn : PySem.W.specialIn K (.builtin "object.__class__") "__get__" = some (some (.builtin "getset_descriptor.__get__")) := of_decide_eq_true (c.fact 24 rfl)
  have xt : PySem.W.takesIn K (.builtin "object.__class__") = some true := of_decide_eq_true (c.fact 25 rfl)
  have CQ : WebQ K (He.ga K "Web") := ⟨Cha, xn, xt, Chm, kit_own, kit_of CkI CkY rfl CkS⟩
  have aD : PySem.W.nsIn K mainGlobals "Walker" = some (some (.ref (He.ga K "Walker"))) := of_decide_eq_true (c.fact 26 rfl)
  have mD := PySem.W.mg_of X G aD
  have Dpg : PySem.W.plainGet K (He.ga K "Walker") Str.empty = true := c.fact 27 rfl
  have Dhd : PySem.W.hasDictIn K (He.ga K "Walker") = true := c.fact 28 rfl
  have Dpo : PySem.W.plainOver K (He.ga K "Walker") = true := c.fact 29 rfl
  have Dsa : PySem.W.findIn K (.ref (He.ga K "Walker")) "__setattr__" = some (some (.builtin "object.__setattr__")) := of_decide_eq_true (c.fact 30 rfl)
  have Dmk : PySem.W.makesIn K (He.ga K "Walker") = true := c.fact 31 rfl
  have Dkc : PySem.W.keepIn K (.ref (He.ga K "Walker")) = true := c.fact 32 rfl
  have Dn0 : PySem.W.findIn K (.ref (He.ga K "Walker")) "home" = some none := of_decide_eq_true (c.fact 33 rfl)
  have Dn1 : PySem.W.findIn K (.ref (He.ga K "Walker")) "lead" = some none := of_decide_eq_true (c.fact 34 rfl)
  have Dn2 : PySem.W.findIn K (.ref (He.ga K "Walker")) "loop" = some none := of_decide_eq_true (c.fact 35 rfl)
  have Dcl : Cls K (He.ga K "Walker") := ⟨Dpg, Dhd, Dpo, Dsa⟩
  have TW : WkC K (He.ga K "Walker") := ⟨Dcl, Dn0, Dn1, Dn2⟩
  have Dha : PySem.W.findIn K (.ref (He.ga K "Walker")) "__class__" = some (some (.builtin "object.__class__")) := of_decide_eq_true (c.fact 36 rfl)
  have Dhm : PySem.W.mroIn K (He.ga K "Walker") (.type "object") = some true := of_decide_eq_true (c.fact 37 rfl)
  have DkI : PySem.W.isClsIn K (He.ga K "Walker") = true := c.fact 38 rfl
  have DkY : PySem.W.typeIn K (.ref (He.ga K "Walker")) = some (.type "type") := of_decide_eq_true (c.fact 39 rfl)
  have DkS : PySem.W.subIn K (.type "tuple") (.ref (He.ga K "Walker")) = some false := of_decide_eq_true (c.fact 40 rfl)
  have Dnf : PySem.W.notFirst K (He.ga K "Walker") (.type "tuple") = true := c.fact 41 rfl
  have Dne : PySem.W.findIn K (.ref (He.ga K "Walker")) "__ne__" = some (some (.builtin "object.__ne__")) := of_decide_eq_true (c.fact 42 rfl)
  have DQ : WkQ K (He.ga K "Walker") := ⟨Dha, xn, xt, Dhm, kit_own, kit_of DkI DkY rfl DkS⟩
  have aA1 : PySem.W.nsIn K mainGlobals "is_pair" = some (some (.ref (He.ga K "is_pair"))) := of_decide_eq_true (c.fact 43 rfl)
  obtain ⟨fdA1, DA1⟩ := c.def_ 0 (d := dA1) rfl
  have FA1 : Fun K "is_pair" "is_pair" sIsPair (He.ga K "is_pair") fdA1 := fun_of DA1
  have kA1 := FA1.kp
  have bA1 := FA1.binds (ps := ["thing", "rooms"]) fun _ _ _ _ _ _ us hl => match us, hl with | [_, _], _ => rfl
  have mA1 := PySem.W.mg_of X G aA1
  have aA2 : PySem.W.nsIn K mainGlobals "pairs_of" = some (some (.ref (He.ga K "pairs_of"))) := of_decide_eq_true (c.fact 44 rfl)
  obtain ⟨fdA2, DA2⟩ := c.def_ 1 (d := dA2) rfl
  have FA2 : Fun K "pairs_of" "pairs_of" sPairsOf (He.ga K "pairs_of") fdA2 := fun_of DA2
  have kA2 := FA2.kp
  have bA2 := FA2.binds (ps := ["rooms", "arrows"]) fun _ _ _ _ _ _ us hl => match us, hl with | [_, _], _ => rfl
  have mA2 := PySem.W.mg_of X G aA2
  have aA3 : PySem.W.nsIn K mainGlobals "gathered" = some (some (.ref (He.ga K "gathered"))) := of_decide_eq_true (c.fact 45 rfl)
  obtain ⟨fdA3, DA3⟩ := c.def_ 2 (d := dA3) rfl
  have FA3 : Fun K "gathered" "gathered" sGathered (He.ga K "gathered") fdA3 := fun_of DA3
  have kA3 := FA3.kp
  have bA3 := FA3.binds (ps := ["rooms", "places"]) fun _ _ _ _ _ _ us hl => match us, hl with | [_, _], _ => rfl
  have mA3 := PySem.W.mg_of X G aA3
  have aA4 : PySem.W.nsIn K mainGlobals "_law_bag" = some (some (.ref (He.ga K "_law_bag"))) := of_decide_eq_true (c.fact 46 rfl)
  obtain ⟨fdA4, DA4⟩ := c.def_ 3 (d := dA4) rfl
  have FA4 : Fun K "_law_bag" "_law_bag" sBag (He.ga K "_law_bag") fdA4 := fun_of DA4
  have kA4 := FA4.kp
  have bA4 := FA4.binds (ps := ["_law_script"]) fun _ _ _ _ _ _ us hl => match us, hl with | [_], _ => rfl
  have mA4 := PySem.W.mg_of X G aA4
  have aA5 : PySem.W.nsIn K mainGlobals "_law_pull" = some (some (.ref (He.ga K "_law_pull"))) := of_decide_eq_true (c.fact 47 rfl)
  obtain ⟨fdA5, DA5⟩ := c.def_ 4 (d := dA5) rfl
  have FA5 : Fun K "_law_pull" "_law_pull" sPull (He.ga K "_law_pull") fdA5 := fun_of DA5
  have kA5 := FA5.kp
  have bA5 := FA5.binds (ps := ["_law_bag_here", "_law_many"]) fun _ _ _ _ _ _ us hl => match us, hl with | [_, _], _ => rfl
  have mA5 := PySem.W.mg_of X G aA5
  have aA6 : PySem.W.nsIn K mainGlobals "_law_of" = some (some (.ref (He.ga K "_law_of"))) := of_decide_eq_true (c.fact 48 rfl)
  obtain ⟨fdA6, DA6⟩ := c.def_ 5 (d := dA6) rfl
  have FA6 : Fun K "_law_of" "_law_of" sOf (He.ga K "_law_of") fdA6 := fun_of DA6
  have kA6 := FA6.kp
  have bA6 := FA6.binds (ps := ["_law_bag_here", "_law_some"]) fun _ _ _ _ _ _ us hl => match us, hl with | [_, _], _ => rfl
  have mA6 := PySem.W.mg_of X G aA6
  have aA7 : PySem.W.nsIn K mainGlobals "_law_mixed" = some (some (.ref (He.ga K "_law_mixed"))) := of_decide_eq_true (c.fact 49 rfl)
  obtain ⟨fdA7, DA7⟩ := c.def_ 6 (d := dA7) rfl
  have FA7 : Fun K "_law_mixed" "_law_mixed" sMixed (He.ga K "_law_mixed") fdA7 := fun_of DA7
  have kA7 := FA7.kp
  have bA7 := FA7.binds (ps := ["_law_bag_here", "_law_some"]) fun _ _ _ _ _ _ us hl => match us, hl with | [_, _], _ => rfl
  have mA7 := PySem.W.mg_of X G aA7
  have aA8 : PySem.W.nsIn K mainGlobals "_law_web" = some (some (.ref (He.ga K "_law_web"))) := of_decide_eq_true (c.fact 50 rfl)
  obtain ⟨fdA8, DA8⟩ := c.def_ 7 (d := dA8) rfl
  have FA8 : Fun K "_law_web" "_law_web" sWeb (He.ga K "_law_web") fdA8 := fun_of DA8
  have kA8 := FA8.kp
  have bA8 := FA8.binds (ps := ["_law_bag_here", "_law_rooms_most", "_law_more_most"]) fun _ _ _ _ _ _ us hl => match us, hl with | [_, _, _], _ => rfl
  have mA8 := PySem.W.mg_of X G aA8
  have aA9 : PySem.W.nsIn K mainGlobals "_law_made" = some (some (.ref (He.ga K "_law_made"))) := of_decide_eq_true (c.fact 51 rfl)
  obtain ⟨fdA9, DA9⟩ := c.def_ 8 (d := dA9) rfl
  have FA9 : Fun K "_law_made" "_law_made" sMade (He.ga K "_law_made") fdA9 := fun_of DA9
  have kA9 := FA9.kp
  have bA9 := FA9.binds (ps := ["_law_w"]) fun _ _ _ _ _ _ us hl => match us, hl with | [_], _ => rfl
  have mA9 := PySem.W.mg_of X G aA9
  have aD1 : PySem.W.nsIn K mainGlobals "_law_outs" = some (some (.ref (He.ga K "_law_outs"))) := of_decide_eq_true (c.fact 52 rfl)
  obtain ⟨fdD1, DD1⟩ := c.def_ 9 (d := dD1) rfl
  have FD1 : Fun K "_law_outs" "_law_outs" sLOuts (He.ga K "_law_outs") fdD1 := fun_of DD1
  have kD1 := FD1.kp
  have bD1 := FD1.binds (ps := ["_law_w", "_law_room"]) fun _ _ _ _ _ _ us hl => match us, hl with | [_, _], _ => rfl
  have mD1 := PySem.W.mg_of X G aD1
  have aD3 : PySem.W.nsIn K mainGlobals "_law_on" = some (some (.ref (He.ga K "_law_on"))) := of_decide_eq_true (c.fact 53 rfl)
  obtain ⟨fdD3, DD3⟩ := c.def_ 10 (d := dD3) rfl
  have FD3 : Fun K "_law_on" "_law_on" sLOn (He.ga K "_law_on") fdD3 := fun_of DD3
  have kD3 := FD3.kp
  have bD3 := FD3.binds (ps := ["_law_w", "_law_arrow"]) fun _ _ _ _ _ _ us hl => match us, hl with | [_, _], _ => rfl
  have mD3 := PySem.W.mg_of X G aD3
  have aD4 : PySem.W.nsIn K mainGlobals "_law_walk" = some (some (.ref (He.ga K "_law_walk"))) := of_decide_eq_true (c.fact 54 rfl)
  obtain ⟨fdD4, DD4⟩ := c.def_ 11 (d := dD4) rfl
  have FD4 : Fun K "_law_walk" "_law_walk" sLWalk (He.ga K "_law_walk") fdD4 := fun_of DD4
  have kD4 := FD4.kp
  have bD4 := FD4.binds (ps := ["_law_bag_here", "_law_w"]) fun _ _ _ _ _ _ us hl => match us, hl with | [_, _], _ => rfl
  have mD4 := PySem.W.mg_of X G aD4
  have aD6 : PySem.W.nsIn K mainGlobals "_law_beats" = some (some (.ref (He.ga K "_law_beats"))) := of_decide_eq_true (c.fact 55 rfl)
  obtain ⟨fdD6, DD6⟩ := c.def_ 12 (d := dD6) rfl
  have FD6 : Fun K "_law_beats" "_law_beats" sLBeats (He.ga K "_law_beats") fdD6 := fun_of DD6
  have kD6 := FD6.kp
  have bD6 := FD6.binds (ps := ["_law_walk_here", "_law_many"]) fun _ _ _ _ _ _ us hl => match us, hl with | [_, _], _ => rfl
  have mD6 := PySem.W.mg_of X G aD6
  have aD7 : PySem.W.nsIn K mainGlobals "_law_walker" = some (some (.ref (He.ga K "_law_walker"))) := of_decide_eq_true (c.fact 56 rfl)
  obtain ⟨fdD7, DD7⟩ := c.def_ 13 (d := dD7) rfl
  have FD7 : Fun K "_law_walker" "_law_walker" sLWalker (He.ga K "_law_walker") fdD7 := fun_of DD7
  have kD7 := FD7.kp
  have bD7 := FD7.binds (ps := ["_law_w", "_law_walk_here"]) fun _ _ _ _ _ _ us hl => match us, hl with | [_, _], _ => rfl
  have mD7 := PySem.W.mg_of X G aD7
  have aP1 : PySem.W.nsIn K mainGlobals "need_walk" = some (some (.ref (He.ga K "need_walk"))) := of_decide_eq_true (c.fact 57 rfl)
  obtain ⟨fdP1, DP1⟩ := c.def_ 14 (d := dP1) rfl
  have FP1 : Fun K "need_walk" "need_walk" sNeedWalk (He.ga K "need_walk") fdP1 := fun_of DP1
  have kP1 := FP1.kp
  have bP1 := FP1.binds (ps := ["web", "ahead", "ring"]) fun _ _ _ _ _ _ us hl => match us, hl with | [_, _, _], _ => rfl
  have mP1 := PySem.W.mg_of X G aP1
  have aP2 : PySem.W.nsIn K mainGlobals "shortest" = some (some (.ref (He.ga K "shortest"))) := of_decide_eq_true (c.fact 58 rfl)
  obtain ⟨fdP2, DP2⟩ := c.def_ 15 (d := dP2) rfl
  have FP2 : Fun K "shortest" "shortest" sShortest (He.ga K "shortest") fdP2 := fun_of DP2
  have kP2 := FP2.kp
  have bP2 := FP2.binds (ps := ["ring"]) fun _ _ _ _ _ _ us hl => match us, hl with | [_], _ => rfl
  have mP2 := PySem.W.mg_of X G aP2
  have aP3 : PySem.W.nsIn K mainGlobals "turned" = some (some (.ref (He.ga K "turned"))) := of_decide_eq_true (c.fact 59 rfl)
  obtain ⟨fdP3, DP3⟩ := c.def_ 16 (d := dP3) rfl
  have FP3 : Fun K "turned" "turned" sTurned (He.ga K "turned") fdP3 := fun_of DP3
  have kP3 := FP3.kp
  have bP3 := FP3.binds (ps := ["ring", "many"]) fun _ _ _ _ _ _ us hl => match us, hl with | [_, _], _ => rfl
  have mP3 := PySem.W.mg_of X G aP3
  have aP4 : PySem.W.nsIn K mainGlobals "least_walk" = some (some (.ref (He.ga K "least_walk"))) := of_decide_eq_true (c.fact 60 rfl)
  obtain ⟨fdP4, DP4⟩ := c.def_ 17 (d := dP4) rfl
  have FP4 : Fun K "least_walk" "least_walk" sLeastWalk (He.ga K "least_walk") fdP4 := fun_of DP4
  have kP4 := FP4.kp
  have bP4 := FP4.binds (ps := ["ahead", "ring"]) fun _ _ _ _ _ _ us hl => match us, hl with | [_, _], _ => rfl
  have mP4 := PySem.W.mg_of X G aP4
  have aM1 : PySem.W.findIn K (.ref (He.ga K "Web")) "__init__" = some (some (.ref (He.ma K (He.ga K "Web") "__init__"))) := of_decide_eq_true (c.fact 61 rfl)
  have iM1 : PySem.W.isFn K (.ref (He.ma K (He.ga K "Web") "__init__")) = true := c.fact 62 rfl
  obtain ⟨fdM1, DM1⟩ := c.def_ 18 (d := dM1) rfl
  have FM1 : Fun K "__init__" "Web.__init__" sInit (He.ma K (He.ga K "Web") "__init__") fdM1 := fun_of DM1
  have kM1 := FM1.kp
  have bM1 := FM1.binds (ps := ["self", "rooms", "arrows"]) fun _ _ _ _ _ _ us hl => match us, hl with | [_, _, _], _ => rfl
  have mM1 : Meth K (He.ga K "Web") "__init__" (He.ma K (He.ga K "Web") "__init__") := ⟨aM1, iM1, kM1⟩
  have aM2 : PySem.W.findIn K (.ref (He.ga K "Web")) "__eq__" = some (some (.ref (He.ma K (He.ga K "Web") "__eq__"))) := of_decide_eq_true (c.fact 63 rfl)
  have iM2 : PySem.W.isFn K (.ref (He.ma K (He.ga K "Web") "__eq__")) = true := c.fact 64 rfl
  obtain ⟨fdM2, DM2⟩ := c.def_ 19 (d := dM2) rfl
  have FM2 : Fun K "__eq__" "Web.__eq__" sEq (He.ma K (He.ga K "Web") "__eq__") fdM2 := fun_of DM2
  have kM2 := FM2.kp
  have bM2 := FM2.binds (ps := ["self", "other"]) fun _ _ _ _ _ _ us hl => match us, hl with | [_, _], _ => rfl
  have mM2 : Meth K (He.ga K "Web") "__eq__" (He.ma K (He.ga K "Web") "__eq__") := ⟨aM2, iM2, kM2⟩
  have aM5 : PySem.W.findIn K (.ref (He.ga K "Web")) "has_arrow" = some (some (.ref (He.ma K (He.ga K "Web") "has_arrow"))) := of_decide_eq_true (c.fact 65 rfl)
  have iM5 : PySem.W.isFn K (.ref (He.ma K (He.ga K "Web") "has_arrow")) = true := c.fact 66 rfl
  obtain ⟨fdM5, DM5⟩ := c.def_ 20 (d := dM5) rfl
  have FM5 : Fun K "has_arrow" "Web.has_arrow" sHas (He.ma K (He.ga K "Web") "has_arrow") fdM5 := fun_of DM5
  have kM5 := FM5.kp
  have bM5 := FM5.binds (ps := ["self", "arrow"]) fun _ _ _ _ _ _ us hl => match us, hl with | [_, _], _ => rfl
  have mM5 : Meth K (He.ga K "Web") "has_arrow" (He.ma K (He.ga K "Web") "has_arrow") := ⟨aM5, iM5, kM5⟩
  have aM6 : PySem.W.findIn K (.ref (He.ga K "Web")) "follows" = some (some (.ref (He.ma K (He.ga K "Web") "follows"))) := of_decide_eq_true (c.fact 67 rfl)
  have iM6 : PySem.W.isFn K (.ref (He.ma K (He.ga K "Web") "follows")) = true := c.fact 68 rfl
  obtain ⟨fdM6, DM6⟩ := c.def_ 21 (d := dM6) rfl
  have FM6 : Fun K "follows" "Web.follows" sFollows (He.ma K (He.ga K "Web") "follows") fdM6 := fun_of DM6
  have kM6 := FM6.kp
  have bM6 := FM6.binds (ps := ["self", "arrow", "ahead"]) fun _ _ _ _ _ _ us hl => match us, hl with | [_, _, _], _ => rfl
  have mM6 : Meth K (He.ga K "Web") "follows" (He.ma K (He.ga K "Web") "follows") := ⟨aM6, iM6, kM6⟩
  have aM7 : PySem.W.findIn K (.ref (He.ga K "Web")) "wrong_place" = some (some (.ref (He.ma K (He.ga K "Web") "wrong_place"))) := of_decide_eq_true (c.fact 69 rfl)
  have iM7 : PySem.W.isFn K (.ref (He.ma K (He.ga K "Web") "wrong_place")) = true := c.fact 70 rfl
  obtain ⟨fdM7, DM7⟩ := c.def_ 22 (d := dM7) rfl
  have FM7 : Fun K "wrong_place" "Web.wrong_place" sWrongPl (He.ma K (He.ga K "Web") "wrong_place") fdM7 := fun_of DM7
  have kM7 := FM7.kp
  have bM7 := FM7.binds (ps := ["self", "row"]) fun _ _ _ _ _ _ us hl => match us, hl with | [_, _], _ => rfl
  have mM7 : Meth K (He.ga K "Web") "wrong_place" (He.ma K (He.ga K "Web") "wrong_place") := ⟨aM7, iM7, kM7⟩
  have aW1 : PySem.W.findIn K (.ref (He.ga K "Walker")) "__init__" = some (some (.ref (He.ma K (He.ga K "Walker") "__init__"))) := of_decide_eq_true (c.fact 71 rfl)
  have iW1 : PySem.W.isFn K (.ref (He.ma K (He.ga K "Walker") "__init__")) = true := c.fact 72 rfl
  obtain ⟨fdW1, DW1⟩ := c.def_ 23 (d := dW1) rfl
  have FW1 : Fun K "__init__" "Walker.__init__" sWkInit (He.ma K (He.ga K "Walker") "__init__") fdW1 := fun_of DW1
  have kW1 := FW1.kp
  have bW1 := FW1.binds (ps := ["self", "web", "ahead", "ring"]) fun _ _ _ _ _ _ us hl => match us, hl with | [_, _, _, _], _ => rfl
  have mW1 : Meth K (He.ga K "Walker") "__init__" (He.ma K (He.ga K "Walker") "__init__") := ⟨aW1, iW1, kW1⟩
  have aW2 : PySem.W.findIn K (.ref (He.ga K "Walker")) "__eq__" = some (some (.ref (He.ma K (He.ga K "Walker") "__eq__"))) := of_decide_eq_true (c.fact 73 rfl)
  have iW2 : PySem.W.isFn K (.ref (He.ma K (He.ga K "Walker") "__eq__")) = true := c.fact 74 rfl
  obtain ⟨fdW2, DW2⟩ := c.def_ 24 (d := dW2) rfl
  have FW2 : Fun K "__eq__" "Walker.__eq__" sWkEq (He.ma K (He.ga K "Walker") "__eq__") fdW2 := fun_of DW2
  have kW2 := FW2.kp
  have bW2 := FW2.binds (ps := ["self", "other"]) fun _ _ _ _ _ _ us hl => match us, hl with | [_, _], _ => rfl
  have mW2 : Meth K (He.ga K "Walker") "__eq__" (He.ma K (He.ga K "Walker") "__eq__") := ⟨aW2, iW2, kW2⟩
  have aW7 : PySem.W.findIn K (.ref (He.ga K "Walker")) "arrow" = some (some (.ref (He.ma K (He.ga K "Walker") "arrow"))) := of_decide_eq_true (c.fact 75 rfl)
  have iW7 : PySem.W.isFn K (.ref (He.ma K (He.ga K "Walker") "arrow")) = true := c.fact 76 rfl
  obtain ⟨fdW7, DW7⟩ := c.def_ 25 (d := dW7) rfl
  have FW7 : Fun K "arrow" "Walker.arrow" sWkArrow (He.ma K (He.ga K "Walker") "arrow") fdW7 := fun_of DW7
  have kW7 := FW7.kp
  have bW7 := FW7.binds (ps := ["self", "beat"]) fun _ _ _ _ _ _ us hl => match us, hl with | [_, _], _ => rfl
  have mW7 : Meth K (He.ga K "Walker") "arrow" (He.ma K (He.ga K "Walker") "arrow") := ⟨aW7, iW7, kW7⟩
  obtain ⟨tmr, mr⟩ := He.int_ok (x := "MOST_ROOMS") (i := 100) X G (c.fact 77 rfl)
  obtain ⟨tma, ma⟩ := He.int_ok (x := "MOST_ARROWS") (i := 400) X G (c.fact 78 rfl)
  have aLW : PySem.W.nsIn K mainGlobals "law" = some (some (.ref (He.ga K "law"))) := of_decide_eq_true (c.fact 79 rfl)
  obtain ⟨fdLW, DLW⟩ := c.def_ 26 (d := dLW) rfl
  have FLW : Fun K "law" "law" sLaw (He.ga K "law") fdLW := fun_of DLW
  have kLW := FLW.kp
  have bLW := FLW.binds (ps := ["_law_script"]) fun _ _ _ _ _ _ us hl => match us, hl with | [_], _ => rfl
  have mLW := PySem.W.mg_of X G aLW
  obtain ⟨ocL, odL, kVL, docL, pmL, anL, cdL, ctL, slL, eL0, lkL, cdeL⟩ := FLW.ex
  have eLaw := hfa.symm.trans mLW
  cases eLaw
  subst eL0
  have MI : Mk K (He.ga K "Web") (He.ma K (He.ga K "Web") "__init__") := ⟨Cmk, aM1, iM1, Ckc⟩
  have MW : Mk K (He.ga K "Walker") (He.ma K (He.ga K "Walker") "__init__") := ⟨Dmk, aW1, iW1, Dkc⟩
  refine ⟨PySem.W.fnOf "law" "law" (defArgs sLaw) (defBody sLaw) (defScope sLaw) .none kVL docL pmL anL cdL ctL, spLaw K, fun s u => .of_eq rfl, fun H a ns _ _ hS => ⟨a, ns, rfl, hS, fun _ => rfl⟩, fun base _ _ => ?_⟩
  have G1 := ok_is_pair (P := l.prog) (w := w) (mg := mg) (base := base) FA1 glen
  have G2 := ok_pairs_of FA2 G1 bA1 mA1 kA1 genumerate gtuple ma
  have G3 := ok_gathered (P := l.prog) (w := w) (mg := mg) (base := base) FA3 grange genumerate gtuple
  have G4 := ok_bag (P := l.prog) (w := w) (mg := mg) (base := base) FA4 glist
  have G5 := ok_pull (P := l.prog) (w := w) (mg := mg) (base := base) FA5 glen
  have G6 := ok_of FA6 G5 bA5 mA5 kA5 glen
  have G7 := ok_mixed FA7 G5 bA5 mA5 kA5 glen glist grange
  have G8 := ok_web FA8 G5 bA5 mA5 kA5 G7 bA7 mA7 kA7 grange gtuple
  have GI := ok_init FM1 T G2 bA2 mA2 kA2 G3 bA3 mA3 kA3 mr
  have GM := ok_madeU FA9 MI GI bM1 mC glist
  have H1 := ok_louts (P := l.prog) (w := w) (mg := mg) (base := base) FD1 genumerate
  have H3 := ok_lon FD3 H1 bD1 mD1 kD1
  have H4 := ok_lwalk FD4 G5 bA5 mA5 kA5 G6 bA6 mA6 kA6 H3 bD3 mD3 kD3 grange glen genumerate
  have H6 := ok_lbeats (P := l.prog) (w := w) (mg := mg) (base := base) FD6 glen glist
  have I2 := ok_eq (P := l.prog) (w := w) (mg := mg) (base := base) FM2 T CQ gisinstance mC
  have I5 := ok_has (P := l.prog) (w := w) (mg := mg) (base := base) FM5 T glen
  have I6 := ok_follows (P := l.prog) (w := w) (mg := mg) (base := base) FM6 T
  have I7 := ok_wrong FM7 T I5 bM5 mM5 I6 bM6 mM6 glen genumerate
  have J1 := ok_needWalk FP1 T I7 bM7 mM7 I6 bM6 mM6 glen glist
  have J2 := ok_shortest (P := l.prog) (w := w) (mg := mg) (base := base) FP2 glen grange
  have J3 := ok_turned (P := l.prog) (w := w) (mg := mg) (base := base) FP3 glen
  have J4 := ok_leastWalk FP4 J2 bP2 mP2 kP2 J3 bP3 mP3 kP3 glen
  have L1 := ok_wkInit FW1 TW J1 bP1 mP1 kP1 J4 bP4 mP4 kP4 gtuple
  have L2 := ok_wkEq FW2 TW DQ gisinstance mD I2 bM2 aM2 iM2
  have L7 := ok_wkArrow (P := l.prog) (w := w) (mg := mg) (base := base) FW7 TW glen (C := (He.ga K "Web"))
  have H7 := ok_lwalkerU FD7 GM bA9 mA9 kA9 MW L1 bW1 mD glist
  exact ok_law FLW {
    TW := TW, TQ := DQ, range := grange, len := glen, list_ := glist, ne := Dne
    bag := ⟨_, _, G4, bA4, mA4, kA4⟩
    pull := ⟨_, _, G5, bA5, mA5, kA5⟩
    web := ⟨_, _, G8, bA8, mA8, kA8⟩
    walk := ⟨_, _, H4, bD4, mD4, kD4⟩
    outs := ⟨_, _, H1, bD1, mD1, kD1⟩
    beats := ⟨_, _, H6, bD6, mD6, kD6⟩
    walker := ⟨_, _, H7, bD7, mD7, kD7⟩
    karrow := ⟨_, _, L7, bW7, mW7⟩
    keq := ⟨_, _, L2, bW2, aW2, iW2⟩ }
end KW
open PySem PySem.W PySem.Calls PyProof.Rows in
set_option maxRecDepth 100000 in
set_option maxHeartbeats 0 in
theorem PySem.Challenge.cw_aheadfold_k09_whole_walkers_are_equal_wh_holds : PySem.Challenge.rw_aheadfold_k09_whole_walkers_are_equal_wh.Holds := by
  w_on; o_law
  refine HandSHeadRun.head_any (r := OpenLaw.row PySem.Challenge.rw_aheadfold_k09_whole_walkers_are_equal_wh) (q := view (OpenLaw.row PySem.Challenge.rw_aheadfold_k09_whole_walkers_are_equal_wh).prog [40]) (H := KW.hkM) (ob := KW.obM) (M := 20000) (loose := KW.loAll) (d := HandSHeadRun.topDef (OpenLaw.row PySem.Challenge.rw_aheadfold_k09_whole_walkers_are_equal_wh).prog 40) (kwd := []) KW.obM_eq
    (by kernel_rfl) (fun s => by kernel_rfl) KW.runM (by kernel_rfl) (by kernel_rfl) (by kernel_rfl) (by rfl) (by first | assumption | decide +kernel) (by decide +kernel) ⟨rfl, rfl, rfl, rfl, rfl, by decide +kernel⟩ ?hw ?hc
  case hw => w_witness2
  case hc =>
    refine L2.walk_ofE (l := PySem.Challenge.rw_aheadfold_k09_whole_walkers_are_equal_wh) (n := 63) (k := 7) (x := "_law_script") (CX := L2.CX0) rfl (by decide) (by kernel_rfl) ⟨rfl, by decide, by decide⟩ ?F (fun _ _ _ _ z => z)
    intro w mg fa hp says ground named
    obtain ⟨K, inK, c⟩ := says
    have nm : (HandSHeadRun.topDef (OpenLaw.row PySem.Challenge.rw_aheadfold_k09_whole_walkers_are_equal_wh).prog 40).name = ("law" : PySem.Str) := by kernel_rfl
    rw [nm] at named
    obtain ⟨fd, sp, h1, h2, h3⟩ := KW.factsM (l := PySem.Challenge.rw_aheadfold_k09_whole_walkers_are_equal_wh) (w := w) inK ground named c
    exact ⟨K, fd, sp, inK, h1, h2, h3⟩

