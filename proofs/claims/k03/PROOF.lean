import PyProof.Rows.All
import Wide.All
import OpenK.AllK
import Wide.FinOn
import HandS.ForMost
import HandS.Wide
import HandS.Codes
import HandS.Walk
import PyProof.P3In
import PyProof.Rows.InDataRows
import HandS.IsInst
import KE.GoesMore
import KE.GoesEnum
import KE.DataFind
import PyProof.InstNe
import PyProof.InstEq
import OpenK.KOps
import OpenK.KMake
import HandS.TupAny
import HandS.ForExc
import HandS.ClsMeth
import HandS.ExcInit
import HandS.ExcCtx
import HandS.HotCalls
import HandS.ExcInitHot
import HandS.Lambda
import KE.KTryMore
import HandS.ExcIs
import HandS.ExcField
import KE.KExcIs
import HandS.Hot
import HandS.Zip
import HandS.Comp
import KE.GoesZip
import KE.KDflt
import KE.KStateDown
import Lean
import HandS.EndOwn
import HandS.Defaults
import HandS.Head0
import HandS.Head1
import HandS.Head2
import HandS.HeadEnd
import HandS.HeadHook1
import HandS.HeadHook2
import HandS.FStr
import HandS.Conv
import HandS.Text
import HandS.TupMul
import KE.KNestM
import PySem.Challenge.RW_aheadfold_k03_rows_of_webs
set_option Elab.async false
set_option maxRecDepth 100000
/-! Rules and words that speak of no row. -/
namespace KW
open PySem PySem.Spec PyProof.Rows L2
section
variable {X : Cx}
/-- o[j] of a list, by values, for o[j] op= e -/
def rGetL (K : PySem.W.Frag) : V → V → Hp → VK → Prop := fun o i H Q =>
  ∃ (p : Addr) (xs : List V) (j : Nat) (v : V), o = .ref p ∧ i = .int j ∧ SqL K H p xs ∧ xs[j]? = some v ∧ Q v H
theorem get_list : PGet X (rGetL X.K) := by
  intro pins s σ H o i ov iv Q I ro ri h
  obtain ⟨p, xs, j, v, rfl, rfl, hq, he, q⟩ := h
  cases ro
  obtain ⟨t, rfl⟩ := ri
  obtain ⟨its, r, pl, hz⟩ := I.list hq
  obtain ⟨u, eu, ru⟩ := r.get he
  have hj : j < xs.length := (List.getElem?_eq_some_iff.mp he).1
  have h63 := line63
  exact wpAny_getItem_list pl.isList (by omega) (by omega) (by simpa using eu) ⟨v, H, I, ru, q⟩
/-! ### by the K that is written, for blocks -/
def rTupleOf (K : PySem.W.Frag) : List V → Hp → VK → Prop := fun xs H Q => ∃ p ys, xs = [.ref p] ∧ ((SqL K H p ys ∧ ∀ l, H l = none → Q (.ref l) (upd H l (.tup ys))) ∨ (SqT K H p ys ∧ Q (.ref p) H))
theorem call_tupleK {K : PySem.W.Frag} (h : X.K = K) : CallR X (.type "tuple") (rTupleOf K) := by
  subst h
  exact call_tuple_of
def rListOf (K : PySem.W.Frag) : List V → Hp → VK → Prop := fun xs H Q => ∃ p ys, xs = [.ref p] ∧ (SqL K H p ys ∨ SqT K H p ys) ∧ ∀ l, H l = none → Q (.ref l) (upd H l (.lst ys))
theorem call_listK {K : PySem.W.Frag} (h : X.K = K) : CallR X (.type "list") (rListOf K) := by
  subst h
  exact call_list_of
theorem ix_listK {K : PySem.W.Frag} (h : X.K = K) : IxR X (rIxL K) := by
  subst h
  exact ix_list
theorem ix_tupK {K : PySem.W.Frag} (h : X.K = K) : IxR X (rIxT K) := by
  subst h
  exact ix_tup
theorem ix_seqK {K : PySem.W.Frag} (h : X.K = K) : IxR X (rIx K) := by
  subst h
  exact ix_seq
/-- a tuple whose object is known to have no dict -/
def FzT (H : Hp) (q : Addr) (as : List V) : Prop := ∃ o : Obj, H q = some (.frz o (.tup as)) ∧ o.dict = none
theorem FzT.sq {K : PySem.W.Frag} {H : Hp} {q : Addr} {as : List V} (h : FzT H q as) : SqT K H q as := by
  obtain ⟨o, h, _⟩ := h
  exact .inl (.inr ⟨o, h⟩)
def rTupleF (K : PySem.W.Frag) : List V → Hp → VK → Prop := fun xs H Q => ∃ p ys, xs = [.ref p] ∧ SqL K H p ys ∧ ∀ (l : Addr) (o : Obj), H l = none → o.dict = none → Q (.ref l) (upd H l (.frz o (.tup ys)))
theorem call_tupleF : CallR X (.type "tuple") (rTupleF X.K) := by
  intro pins st σ H xs us Q I rel hyp
  obtain ⟨p, ys, rfl, hsq, hq⟩ := hyp
  cases rel with
  | cons r0 r1 =>
    cases r1
    cases r0
    obtain ⟨its, vals, plain, short⟩ := I.list hsq
    have ln := vals.length
    refine call_tuple_list plain.isList (fun h' keep => ?_) (by simp only [List.size_toArray]; omega)
    have J : Inv X pins σ H { st with heap := h' } := I.kept (t' := st.toks) keep
    have J2 : Inv X pins σ (upd H h'.objs.size (.frz { cls := .type "tuple", data := .seq its.toArray } (.tup ys))) { st with heap := h'.push { cls := .type "tuple", data := .seq its.toArray } } :=
      J.laid (t' := st.toks) (fun c u hc => Heap.get?_push_of_some _ hc) (Nat.le_refl _) ⟨Heap.get?_push_size _ rfl, short, its, vals, IsTup.new _ _⟩
    exact ⟨.ref h'.objs.size, _, J2, rfl, hq _ _ (J.hok.fresh (Nat.le_refl _)) rfl⟩
theorem boot_tuple' : bootBuiltins "tuple" = some (.type "tuple") := by decide +kernel
theorem boot_list' : bootBuiltins "list" = some (.type "list") := by decide +kernel
end
/-- the drawing bag at b: its list at l holds ns -/
def BagAt (b l : Addr) (ns : List Int) (H : Hp) : Prop :=
  (∃ i r s c : Int, H b = some (.lst [.ref l, .int i, .int r, .int s, .int c]) ∧ 0 ≤ i) ∧ H l = some (.lst (ns.map V.int)) ∧ b ≠ l
/-- all but b is as it was -/
def Off (b : Addr) (H H' : Hp) : Prop := ∀ a, a ≠ b → H' a = H a
theorem Off.refl (b : Addr) (H : Hp) : Off b H H := fun _ _ => rfl
theorem Off.trans {b : Addr} {H H1 H2 : Hp} (x : Off b H H1) (y : Off b H1 H2) : Off b H H2 := fun a h => (y a h).trans (x a h)
theorem Off.upd {b : Addr} {H : Hp} {o : HO} : Off b H (upd H b o) := fun _ h => upd_ne h
theorem BagAt.put {b l : Addr} {ns : List Int} {H : Hp} (B : BagAt b l ns H) {i r s c : Int} (h : 0 ≤ i) : BagAt b l ns (upd H b (.lst [.ref l, .int i, .int r, .int s, .int c])) :=
  ⟨⟨i, r, s, c, upd_same, h⟩, by rw [upd_ne B.2.2.symm]; exact B.2.1, B.2.2⟩
end KW

set_option Elab.async false
set_option maxRecDepth 100000
/-! Rules and words that speak of no row, further: in over a tuple of data; rows of numbers. -/
namespace KW
open PySem PySem.Spec PyProof.Rows L2
section
variable {X : Cx}
def rInTD (K : PySem.W.Frag) : R2 := fun x y H Q => ∃ d ds, Dp K H x d ∧ Dp K H y (.tuple ds) ∧ SeqAt.shaped d = true ∧ SeqAt.shaped (.tuple ds) = true ∧ Q (.bl (ds.any fun z => PyData.eqv z d)) H
theorem op_inTD (hu : X.A.units + 65 < cLine) : OpR X (compareOp .In) (rInTD X.K) := by
  intro pins s σ H x y v u Q I rx ry h
  obtain ⟨d, ds, hd, he, sd, se, q⟩ := h
  obtain ⟨as, r1⟩ := Dp.reads I d x v hd rx
  obtain ⟨bs, r2⟩ := Dp.reads I (.tuple ds) y u he ry
  exact SeqAt.in_tuple_reads r2 r1 (SeqAt.canLay_of_shaped se) (SeqAt.canLay_of_shaped sd) (room_in_shaped sd hu) ⟨.bl _, H, I, rfl, q⟩
end
theorem hu65 {A : Around} {k : Nat} (hr : Room k A) : A.units + 65 < cLine := by
  have := hr.un
  omega
/-! ### numbers -/
def nV (i : Nat) : V := .int (i : Int)
def nums (l : List Nat) : List V := l.map nV
theorem nums_snoc (l : List Nat) (i : Nat) : nums (l ++ [i]) = nums l ++ [.int (i : Int)] := by
  unfold nums
  rw [List.map_append]
  rfl
def nD (i : Nat) : PyData := .int (i : Int)
def rowD (l : List Nat) : PyData := .tuple (l.map nD)
theorem nums_lay : ∀ l : List Nat, PyData.canLayAll0 (l.map nD) = true
  | [] => by simp [PyData.canLayAll0]
  | i :: l => by simp [PyData.canLayAll0, nD, PyData.canLay0, nums_lay l]
theorem nums_depth : ∀ l : List Nat, PyData.depthAll (l.map nD) = 0
  | [] => by simp [PyData.depthAll]
  | i :: l => by simp [PyData.depthAll, nD, PyData.depth, nums_depth l]
theorem rows_lay : ∀ ls : List (List Nat), PyData.canLayAll0 (ls.map rowD) = true
  | [] => by simp [PyData.canLayAll0]
  | l :: ls => by simp [PyData.canLayAll0, rowD, PyData.canLay0, nums_lay l, rows_lay ls]
theorem rows_depth : ∀ ls : List (List Nat), PyData.depthAll (ls.map rowD) ≤ 1
  | [] => by simp [PyData.depthAll]
  | l :: ls => by
    have h1 := rows_depth ls
    simp only [List.map_cons, PyData.depthAll, rowD, PyData.depth, nums_depth]
    omega
theorem shaped_of {d : PyData} (h1 : d.canLay0 = true) (h2 : d.depth ≤ 64) : SeqAt.shaped d = true := by
  unfold SeqAt.shaped
  rw [h1, decide_eq_true h2]
  rfl
theorem rows_shaped (ls : List (List Nat)) : SeqAt.shaped (.tuple (ls.map rowD)) = true := by
  have h1 := rows_depth ls
  exact shaped_of (by simp only [PyData.canLay0]; exact rows_lay ls) (by simp only [PyData.depth]; omega)
theorem nil_shaped : SeqAt.shaped (.tuple []) = true := by decide
theorem nil_in (ls : List (List Nat)) : ((ls.map rowD).any fun z => PyData.eqv z (.tuple [])) = ls.any (·.isEmpty) := by
  rw [List.any_map]
  congr 1
  funext l
  cases l <;> simp [rowD, PyData.eqv, PyData.eqvAll]
theorem dp_nums {K : PySem.W.Frag} {H : Hp} : ∀ l : List Nat, DpAll K H (nums l) (l.map nD)
  | [] => .nil
  | i :: l => .cons (.int _) (dp_nums l)
/-! ### rows of numbers, each a tuple -/
def IsR (H : Hp) (v : V) (l : List Nat) : Prop := ∃ a, v = .ref a ∧ H a = some (.tup (nums l))
abbrev RowsIn (H : Hp) (vs : List V) (ls : List (List Nat)) : Prop := Paired (IsR H) vs ls
theorem dp_rows {K : PySem.W.Frag} {H : Hp} : ∀ {vs : List V} {ls : List (List Nat)}, RowsIn H vs ls → DpAll K H vs (ls.map rowD)
  | _, _, .nil => .nil
  | _, _, .cons ⟨a, e, h⟩ r => by
    rw [e]
    exact .cons (.tup (SqT.of h) (dp_nums _)) (dp_rows r)
/-! ### the places of a number -/
def idxs : List Nat → Nat → Nat → List Nat
  | [], _, _ => []
  | p :: ps, r, k => if p = r then k :: idxs ps r (k + 1) else idxs ps r (k + 1)
theorem idxs_snoc (p r : Nat) : ∀ (ps : List Nat) (k : Nat), idxs (ps ++ [p]) r k = idxs ps r k ++ (if p = r then [k + ps.length] else [])
  | [], k => by
    show idxs [p] r k = _
    unfold idxs
    split <;> simp [idxs]
  | q :: ps, k => by
    have ih := idxs_snoc p r ps (k + 1)
    show idxs (q :: (ps ++ [p])) r k = _
    unfold idxs
    rw [ih]
    have e : k + 1 + ps.length = k + (q :: ps).length := by simp; omega
    rw [e]
    split <;> simp
theorem idxs_len (r : Nat) : ∀ (ps : List Nat) (k : Nat), (idxs ps r k).length ≤ ps.length
  | [], k => by simp [idxs]
  | q :: ps, k => by
    have ih := idxs_len r ps (k + 1)
    unfold idxs
    split <;> simp <;> omega
theorem idxs_none (r : Nat) : ∀ (ps : List Nat) (k : Nat), idxs ps r k = [] → r ∉ ps
  | [], k, _ => by simp
  | q :: ps, k, h => by
    unfold idxs at h
    split at h
    · cases h
    · rename_i hq
      have ih := idxs_none r ps (k + 1) h
      intro z
      rcases List.mem_cons.mp z with e | e
      · exact hq e.symm
      · exact ih e
/-- for each number below n its places -/
def gat (n : Nat) (ps : List Nat) : List (List Nat) := (List.range n).map fun r => idxs ps r 0
theorem gat_len (n : Nat) (ps : List Nat) : (gat n ps).length = n := by simp [gat]
theorem gat_full {n : Nat} {ps : List Nat} (h : ∀ r, r < n → r ∈ ps) : (gat n ps).any (·.isEmpty) = false := by
  rw [List.any_eq_false]
  intro l hl z
  obtain ⟨r, hr, e⟩ := List.mem_map.mp hl
  subst e
  exact idxs_none r ps 0 (List.isEmpty_iff.mp z) (h r (List.mem_range.mp hr))
end KW

set_option Elab.async false
set_option maxRecDepth 100000
set_option maxHeartbeats 1000000
/-! Rules that speak of no row: enumerate(tuple); t.count(x); len, repr, ==, != by an own class's methods. -/
namespace KW
open PySem PySem.Spec PyProof.Rows L2
/-! ### enumerate(t), t a tuple -/
theorem meets_enum1 {v : Value} {ob : Obj} {G : Heap → Prop} (B : Begins v ob G) :
    Meets (Builtin.«enumerate.__new__» ⟨[.type "enumerate", v], []⟩) (fun _ R st => G st.heap ∧
      R (.ok (.ret (.ref (st.heap.push ob).objs.size))) { st with heap := (st.heap.push ob).push { cls := .type "enumerate", data := .fields #[.none, .bool false, .ref st.heap.objs.size, rawInt 0, .none, .none] } }) :=
  .of_wp fun prog w A R st hyp => by
    obtain ⟨hp, gs, dr, tk, os⟩ := st
    obtain ⟨hG, hR⟩ := hyp
    have sub1 := sub_enumerate
    have begin1 : ∀ {A1 : Around} {E1 : Value → Shared → Prop} {Q1 : Value → Shared → Prop}, Q1 (.ref hp.objs.size) ⟨hp.push ob, gs, dr, tk, os⟩ → wpAny (model prog w) A1 (pyIter v) Q1 E1 ⟨hp, gs, dr, tk, os⟩ :=
      fun hq => B.iter prog w _ _ ⟨hp, gs, dr, tk, os⟩ _ hG hq
    wp_walk using begin1
    refine wpAny_stack_any fun stk => wpAny_pure ?_
    split
    · rename_i cl _ _ _ _ _
      cases (cl == Value.type "enumerate") <;> (wp_walk using begin1; exact ⟨_, rfl, hR⟩)
    · wp_walk using begin1
      exact ⟨_, rfl, hR⟩
theorem call_enum1 {prog : Program} {w : World} {A : Around} {E : Value → Shared → Prop} {st : Shared} {v : Value} {ob : Obj} {G : Heap → Prop} {Q : Value → Shared → Prop} (B : Begins v ob G) (hG : G st.heap)
    (hQ : ∀ h', IsEnum h' (st.heap.objs.size + 1) st.heap.objs.size 0 .none → h'.get? st.heap.objs.size = some ob → (∀ c u, st.heap.get? c = some u → h'.get? c = some u) → Q (.ref (st.heap.objs.size + 1)) { st with heap := h' }) :
    wpAny (model prog w) A (call (.type "enumerate") [v]) Q E st := by
  refine callType_new F.called_enumerate (by decide) (F.typeCall_enumerate_1 _) (F.newCall_enumerate_1 _) (fun self => F.args_object_init_2 self _) F.entry_enumerate_new (meets_enum1 B) ⟨hG, ?_⟩
  have size1 : (st.heap.push ob).objs.size = st.heap.objs.size + 1 := Heap.size_push ..
  have isE : IsEnum ((st.heap.push ob).push { cls := .type "enumerate", data := .fields #[.none, .bool false, .ref st.heap.objs.size, rawInt 0, .none, .none] }) (st.heap.objs.size + 1) st.heap.objs.size 0 .none := by
    have last := Heap.get?_push_size (st.heap.push ob) (o := { cls := .type "enumerate", data := .fields #[.none, .bool false, .ref st.heap.objs.size, rawInt 0, .none, .none] }) rfl
    rw [size1] at last
    exact last
  show _ ∧ _
  rw [size1]
  exact ⟨⟨_, isE, rfl⟩, hQ _ isE (Heap.get?_push_of_some _ (Heap.get?_push_size _ B.free)) fun c u hc => Heap.get?_push_of_some _ (Heap.get?_push_of_some _ hc)⟩
/-- the tuple at a, each item with its number in a new pair -/
def ItEnT (K : PySem.W.Frag) (a : Addr) : It where
  go := fun i H => ∃ (xs : List V) (x : V), SqT K H a xs ∧ xs[i]? = some x
  yld := fun i H v H' => ∃ T x, v = .ref T ∧ H T = none ∧ H' = upd H T (.tup [.int (i : Nat), x]) ∧ ∀ xs, SqT K H a xs → xs[i]? = some x
  stop := fun i H => ∃ xs : List V, SqT K H a xs ∧ xs.length ≤ i
theorem turn_enT {P : Program} {w : World} {K : PySem.W.Frag} {els : List Expr} {kk : Nat} {tp : Pos} (a en it : Addr) :
    Turn P w K (.Tuple els kk tp) (ItEnT K a) [en, it] en (fun i h => (∃ old, IsEnum h en it ((i : Nat) : Int) old) ∧ h.IsTupleIter it a i ∧ en ≠ it ∧ en ≠ a ∧ a ≠ it) where
  mem := by simp
  obj := fun i h state c hc => by
    obtain ⟨⟨old, hen⟩, ⟨ob, hob, _, hdat⟩, _⟩ := state
    rcases (by simpa using hc : c = en ∨ c = it) with hz | hz
    · subst hz
      exact ⟨_, hen, fun v bad => nomatch bad⟩
    · subst hz
      exact ⟨ob, hob, fun v bad => by rw [hdat] at bad; cases bad⟩
  keep := fun i h h' state stay => by
    obtain ⟨⟨old, hen⟩, hti, n1, n2, n3⟩ := state
    exact ⟨⟨old, stay en (by simp) _ hen⟩, hti.at fun ob hob => stay it (by simp) ob hob, n1, n2, n3⟩
  item := by
    intro X eP ew eK calm i pins st σ H E I fresh state going
    subst eP ew eK
    obtain ⟨⟨old, hen⟩, hti, n1, n2, n3⟩ := state
    obtain ⟨xs, x, hsq, hx⟩ := going
    obtain ⟨its, vals, isT, _⟩ := I.tuple hsq
    obtain ⟨u, hu, ru⟩ := vals.get hx
    have hlt : i < its.toArray.size := by
      have := (List.getElem?_eq_some_iff.mp hu).1
      simpa using this
    have enOld : en < st.heap.objs.size := Heap.lt_size hen
    have itOld : it < st.heap.objs.size := by
      obtain ⟨_, hq, _⟩ := hti
      exact Heap.lt_size hq
    have D := Draws.tuple (prog := X.prog) (w := X.w) (A := X.A.in1) (I.ok.hd calm) it a n3 its.toArray
    refine wpAny_pyNext_enum_itemD D hen ⟨hti, isT⟩ hlt n1 (by simp [n1, n2]) fun y h' tk hy hout hti' hnew hsz hkeep => ?_
    have ey : y = u := by
      have q : its.toArray[i]? = some u := by simpa using hu
      rw [q] at hy
      exact (Option.some.inj hy).symm
    subst ey
    refine ⟨_, rfl, wpAny_letOwnedTupleGo_enum (s := { st with heap := h', toks := tk + 1 }) hout fun h2 hen2 same2 => ?_⟩
    have new2 : h2.get? st.heap.objs.size = some { cls := .type "tuple", data := .seq #[.int i tk, y] } := (same2.2 _ (Nat.ne_of_gt enOld)).trans hnew
    have okT : ObjOk X.prog X.w (upd H st.heap.objs.size (.tup [.int (i : Nat), x])) h2 st.heap.objs.size (.tup [.int (i : Nat), x]) :=
      ⟨by show 2 ≤ sizeLine; decide, [.int i tk, y], .cons ⟨_, rfl⟩ (.cons ru .nil), ⟨_, new2, rfl, _, rfl⟩⟩
    have I2 : Inv X pins σ (upd H st.heap.objs.size (.tup [.int (i : Nat), x])) { st with heap := h2, toks := tk + 1 } :=
      I.turnedNew (ch := [en, it]) (fun c ob hc hob => (same2.2 c (fun z => hc (by simp [z]))).trans (hkeep c ob (fun z => hc (by simp [z])) (fun z => hc (by simp [z])) hob)) fresh (Nat.le_refl _) okT
    have casts : ((i + 1 : Nat) : Int) = (i : Int) + 1 := by omega
    refine ⟨.ref st.heap.objs.size, _, I2, rfl, ⟨_, x, rfl, I.hok.fresh (Nat.le_refl _), rfl, fun ys hys => by rw [I.tuple_inj hys hsq]; exact hx⟩,
      ⟨⟨y, by rw [casts]; exact hen2⟩, hti'.1.at fun ob hob => (same2.2 it n1.symm).trans hob, n1, n2, n3⟩, fun c hc => ?_⟩
    have cOld : c < st.heap.objs.size := by
      rcases (by simpa using hc : c = en ∨ c = it) with hz | hz
      · rw [hz]; exact enOld
      · rw [hz]; exact itOld
    rw [upd_ne (Nat.ne_of_lt cOld)]
    exact (fresh c hc).1
  done := by
    intro X eP ew eK calm i pins st σ H E I fresh state stopping
    subst eP ew eK
    obtain ⟨⟨old, hen⟩, hti, n1, n2, n3⟩ := state
    obtain ⟨xs, hsq, hlen⟩ := stopping
    obtain ⟨its, vals, isT, _⟩ := I.tuple hsq
    obtain ⟨f0, f1, f2, f3, f4, f5⟩ := fresh it (by simp)
    have ln := vals.length
    have hT : st.TypeIs (.ref en) "enumerate" := ⟨_, hen, rfl⟩
    unfold pyNext
    refine wpAny_bind (wpAny_attempt (wpAny_callSpecial?_slot (name := Str.ofString "__next__") hT F.slot_enumerate_next (wpAny_call_entry F.slot_enumerate_next hT F.entry_enumerate_next ?_ (F.args_enumerate_next_1 _))))
    show wpAny _ _ (field (.ref en) 2 >>= _) _ _ _
    refine wpAny_bind (wpAny_field hen rfl (x := .ref it) rfl ?_)
    refine wpAny_bind (wpAny_nextOf_tuple_end (I.ok.hd calm) hti (show st.heap.IsTuple a its.toArray from isT) (by simp; omega) fun h' ex ext hex => ?_)
    obtain ⟨ob, hob, hcl⟩ := hex
    refine wpAny_bind (wpAny_isInstance (T := "StopIteration") (b := true) ⟨ob, hob, hcl⟩ isSubtype_stop ?_)
    exact wpAny_pure ⟨rfl, I.turned (t' := st.toks) (fun c u hc hcu => ext c u hc hcu) f0 f1 f3 f4 f5⟩
  self := fun A i st Q E state hq => by
    obtain ⟨⟨old, hen⟩, _⟩ := state
    exact wpAny_pyIter_enum hen hq
def iEnT (K : PySem.W.Frag) (ta : TA) : TI := fun σ H R => ta σ H fun vs H1 => ∃ a xs, vs = [.ref a] ∧ SqT K H1 a xs ∧ R (ItEnT K a) H1
theorem pi_enT {X : Cx} {e : Expr} {ta : TA} {p pos tp : Pos} {els : List Expr} {kk : Nat} (hg : Gl X "enumerate") (hm : X.mg "enumerate" = none) (ha : PA X [e] ta) (hs : starEach [e] X.env = [(false, eval e X.env)] := by rfl) :
    PI X (.Tuple els kk tp) (.Call (.Name "enumerate" p) [e] [] pos) (iEnT X.K ta) := by
  refine ⟨fun pins st σ H R I hyp => ?_⟩
  refine Call_ (ld_blt I hg hm PyProof.Rows.boot_enumerate (PyProof.Rows.callWith_type1 (thn (ha.run pos pins st σ H _ I hyp) fun us s1 ⟨vs, H1, I1, rel, rest⟩ => ?_) hs rfl))
  obtain ⟨a, xs, ev, hsq, hR⟩ := rest
  subst ev
  cases rel with
  | cons r0 r1 =>
    cases r1
    cases r0
    obtain ⟨its, vals, isT, _⟩ := I1.tuple hsq
    have aOld : a < s1.heap.objs.size := IsTup.lt isT
    refine call_enum1 (begins_tuple a its.toArray) (show s1.heap.IsTuple a its.toArray from isT) fun h' hen hit hkeep => wpAny_pyIter_enum hen ?_
    have I2 : Inv X pins σ H1 { s1 with heap := h' } := I1.kept (t' := s1.toks) hkeep
    refine ⟨s1.heap.objs.size + 1, [s1.heap.objs.size + 1, s1.heap.objs.size], _, _, H1, rfl, I2, turn_enT a (s1.heap.objs.size + 1) s1.heap.objs.size,
      ⟨⟨.none, hen⟩, ⟨_, hit, rfl, rfl⟩, Nat.succ_ne_self _, Nat.ne_of_gt (Nat.lt_succ_of_lt aOld), Nat.ne_of_lt aOld⟩, fun c hc => ?_, hR⟩
    have newer : s1.heap.objs.size ≤ c := by
      rcases (by simpa using hc : c = s1.heap.objs.size + 1 ∨ c = s1.heap.objs.size) with hz | hz
      · rw [hz]; exact Nat.le_succ _
      · rw [hz]; exact Nat.le_refl _
    exact I1.fpOk newer (I1.hok.fresh newer)
theorem walk_enT {K : PySem.W.Frag} {a : Addr} {xs : List V} : Walk (ItEnT K a) xs.length (fun H => SqT K H a xs) (YPair (fun i => some (.int (i : Nat))) (fun i => xs[i]?)) := by
  refine ⟨fun i _ hi hsq => ⟨xs, xs[i], hsq, by simp [hi]⟩, fun _ hsq => ⟨xs, hsq, Nat.le_refl _⟩, fun i H v H' _ hsq told => ?_⟩
  obtain ⟨T, x, e1, e2, e3, e4⟩ := told
  exact ⟨T, .int (i : Nat), x, e1, e2, e3, rfl, e4 xs hsq⟩
/-! ### t.count(x) -/
section
variable {X : Cx}
def rTCount (K : PySem.W.Frag) : V → List V → Hp → VK → Prop := fun x vs H Q => ∃ (a : Addr) (y : V) (d : PyData) (ds : List PyData), x = .ref a ∧ vs = [y] ∧ Dp K H (.ref a) (.tuple ds) ∧ Dp K H y d ∧ PyData.plainAll ds = true ∧ d.plain = true ∧ d.depth ≤ 64 ∧
  Q (.int ((ds.countP fun z => PyData.eqv z d : Nat) : Int)) H
theorem mt_tcount (hu : X.A.units + 65 < cLine) : MtR X "tuple.count" (rTCount X.K) := by
  intro pins st σ H x vs v us Q I rx rs hyp
  obtain ⟨a, y, d, ds, rfl, rfl, ha, hy, pl, pd, dep, q⟩ := hyp
  cases rx
  cases rs with
  | cons ry rt =>
    rename_i uy ut
    cases rt
    obtain ⟨bs, r1⟩ := Dp.reads I d y uy hy ry
    cases ha with
    | tup hsq hall =>
      obtain ⟨its, vals, isT, _⟩ := I.tuple hsq
      obtain ⟨as, r2⟩ := Dp.readsAll I ds _ its hall vals
      have few : min (PyData.depthAll ds) d.depth ≤ 64 := Nat.le_trans (Nat.min_le_right _ _) dep
      exact SeqAt.count_tuple_data (show st.heap.IsTuple a its.toArray from isT) (show ReadsAll st.heap its.toArray.toList ds as from r2) r1 pl pd (by omega) ⟨.int _, H, I.tok _, ⟨_, rfl⟩, q⟩
/-- o.count(e), o a tuple without a dict -/
def tTC (K : PySem.W.Frag) (to : TE) (t : TA) : TE := fun σ H Q => to σ H fun x H1 => ∃ q as, x = .ref q ∧ FzT H1 q as ∧ t σ H1 fun xs H2 => rTCount K x xs H2 Q
theorem pe_tcount {o e : Expr} {es : List Expr} {to : TE} {t : TA} {ap cp : Pos} (hu : X.A.units + 65 < cLine) (ho : PE X o to) (ha : PA X (e :: es) t)
    (hbase : attributeBase o "count" X.env (eval o X.env) = eval o X.env := by rfl)
    (few : ((backTo cp (starEach (e :: es) X.env)).all (fun x => !x.1) && (backToKw cp (keywordEach [] X.env)).all (fun x => x.1.isSome) && decide ((e :: es).length + ([] : List Keyword).length + (if ([] : List Keyword).isEmpty then 0 else 1) < 30)) = true := by rfl)
    (line : (ap.endLine == cp.line) = true := by rfl) (hs : starEach (e :: es) X.env = (false, eval e X.env) :: starEach es X.env := by rfl) (hpl : (backTo cp (starEach es X.env)).any (·.1) = false := by rfl) :
    PE X (.Call (.Attribute o "count" ap) (e :: es) [] cp) (tTC X.K to t) := by
  refine ⟨fun pins st σ H Q I hyp => ?_⟩
  refine wpAny_Call_method_late hbase few line rfl (thn (ho.run pins st σ H _ I hyp) fun v s1 ⟨x, H1, I1, rx, q, as, ex, hfz, rest⟩ => ?_)
  subst ex
  cases rx
  obtain ⟨ob, hfz, hdict⟩ := hfz
  obtain ⟨hob, _, its, _, ob2, hob2, hcl, _⟩ := (show ObjOk X.prog X.w H1 s1.heap q (.frz ob (.tup as)) from I1.hok q _ hfz)
  have same : ob2 = ob := Option.some.inj (hob2.symm.trans hob)
  subst same
  refine ⟨"tuple", "tuple.count", PySem.F.plainAttrs_tuple, PySem.F.slot_tuple_count, PySem.F.type_tuple_count, ⟨ob2, hob2, hcl⟩, fun a ea => by cases ea; exact ⟨ob2, hob2, hdict⟩, ?_⟩
  have args := ha.run cp pins s1 σ H1 _ I1 rest
  rw [hs] at args ⊢
  refine Calls.callWith_builtin (by show (false || (backTo cp (starEach es X.env)).any (·.1)) = false; rw [hpl]; rfl) (Calls.evalArgs_plain ?_)
  exact thn args fun us s2 ⟨vs, H2, I2, rv, hq⟩ => mt_tcount hu pins s2 σ H2 (.ref q) vs _ us Q I2 rfl rv hq
end
end KW

set_option Elab.async false
set_option maxRecDepth 100000
set_option maxHeartbeats 1000000
/-! Rules that speak of no row: len, repr, ==, != by an own class's methods. -/
namespace KW
open PySem PySem.Spec PyProof.Rows L2
section
variable {X : Cx} {CX : CXT} {k : Nat} {f C : Addr} {fd : FuncData} {ps : List Str} {sp : Sp} {E : XK}
/-- a def of the text runs somewhere below the body X -/
theorem run_sub {A : Around} {pins : List (Addr × Obj)} {σ : L2.St} {H : Hp} {st : Shared} {Q : VK} {us : List Value} {vs : List V} (F : FnOk X.prog X.w X.K X.mg X.base CX k f fd ps sp) (room : Room k A) (same : A.frames = X.A.frames) (hb : Binds X.K fd ps []) (hx : Passes CX X E)
    (I : Inv X pins σ H st) (rel : Vals vs us) (hyp : sp vs H Q E) : wpAny (model X.prog X.w) A (call (.ref f) us) (EP X pins σ Q) X.xe st := by
  have ln : us.length = ps.length := by
    rw [← rel.length]
    exact F.len _ _ _ _ hyp
  have bound := hb st us I.kIn (by rw [List.append_nil]; exact ln)
  rw [List.append_nil] at bound
  have env : Env0 X.prog X.w X.K X.mg X.base A X.stack st H := by
    obtain ⟨e1, e2, e3, e4, e5, e6, e7, e8⟩ := I.env0
    exact ⟨by rw [same]; exact e1, e2, e3, e4, e5, e6, e7, e8⟩
  refine wpAny_call (codeAny_mono (F.run A X.stack st H ⟨us, []⟩ us vs Q E room env bound rel hyp) fun res st' got => ?_)
  cases res with
  | error er => exact hx pins σ H st er st' I got
  | ok flow =>
    cases flow with
    | ret u => exact I.after got
    | next => exact got.elim
    | brk => exact got.elim
    | cont => exact got.elim
/-- what is asked of an instance at a whose class at C has the method -/
def rLenO (C : Addr) (sp : Sp) (E : XK) : List V → Hp → VK → Prop := fun xs H Q => ∃ (a dx : Addr) (fs : List (Str × V)), xs = [.ref a] ∧ H a = some (.ins C dx fs) ∧ sp [.ref a] H (fun v H' => ∃ n : Int, v = .int n ∧ 0 ≤ n ∧ n < 2 ^ 63 ∧ Q (.int n) H') E
theorem call_lenO (F : FnOk X.prog X.w X.K X.mg X.base CX k f fd ps sp) (room : Room (k + 1) X.A) (hb : Binds X.K fd ps []) (hx : Passes CX X E) (hs : PySem.W.findIn X.K (.ref C) "__len__" = some (some (.ref f))) (hf : PySem.W.isFn X.K (.ref f) = true) :
    CallR X (.builtin "len") (rLenO C sp E) := by
  intro pins st σ H xs us Q I rel hyp
  obtain ⟨a, dx, fs, rfl, ha, hsp⟩ := hyp
  cases rel with
  | cons r0 r1 =>
    cases r1
    cases r0
    obtain ⟨mA, J, _⟩ := ins_get I.hok ha
    obtain ⟨od, J, _⟩ := J.look
    obtain ⟨m, hF⟩ := I.fr
    refine PySem.W.len_K hF I.ok.mod.kin J hs hf (wpAny_mono (run_sub (A := X.A.in1) (vs := [.ref a]) F room.in1 rfl hb hx I (.cons rfl .nil) hsp) (fun v st' got => ?_) fun _ _ z => z)
    obtain ⟨v0, H', I', rv, n, ev, h0, h1, hq⟩ := got
    subst ev
    obtain ⟨t, rfl⟩ := rv
    exact ⟨⟨h0, h1⟩, .int n, H', I'.tok _, ⟨_, rfl⟩, hq⟩
def rReprO (C : Addr) (sp : Sp) (E : XK) : List V → Hp → VK → Prop := fun xs H Q => ∃ (a dx : Addr) (fs : List (Str × V)), xs = [.ref a] ∧ H a = some (.ins C dx fs) ∧ sp [.ref a] H (fun v H' => ∃ z : Str, v = .str z ∧ Q (.str z) H') E
theorem call_reprO (F : FnOk X.prog X.w X.K X.mg X.base CX k f fd ps sp) (room : Room (k + 1) X.A) (hb : Binds X.K fd ps []) (hx : Passes CX X E) (hs : PySem.W.findIn X.K (.ref C) "__repr__" = some (some (.ref f))) (hf : PySem.W.isFn X.K (.ref f) = true) :
    CallR X (.builtin "repr") (rReprO C sp E) := by
  intro pins st σ H xs us Q I rel hyp
  obtain ⟨a, dx, fs, rfl, ha, hsp⟩ := hyp
  cases rel with
  | cons r0 r1 =>
    cases r1
    cases r0
    obtain ⟨mA, J, _⟩ := ins_get I.hok ha
    obtain ⟨od, J, _⟩ := J.look
    obtain ⟨m, hF⟩ := I.fr
    refine PySem.W.repr_K room.in1.units0 hF I.ok.mod.kin J hs hf (wpAny_mono (run_sub (A := X.A.in1) (vs := [.ref a]) F room.in1 rfl hb hx I (.cons rfl .nil) hsp) (fun v st' got => ?_) fun _ _ z => z)
    obtain ⟨v0, H', I', rv, z, ev, hq⟩ := got
    subst ev
    obtain ⟨t, rfl⟩ := rv
    exact ⟨.str z, H', I', ⟨_, rfl⟩, hq⟩
/-- a == b by the own __eq__ of a's class; b: an instance of it, or a tuple -/
def rEqO (K : PySem.W.Frag) (C : Addr) (sp : Sp) (E : XK) : R2 := fun x y H Q => ∃ (a b dx : Addr) (fs : List (Str × V)), x = .ref a ∧ y = .ref b ∧ H a = some (.ins C dx fs) ∧ ((∃ (dy : Addr) (gs : List (Str × V)), H b = some (.ins C dy gs)) ∨ (PySem.W.notFirst K C (.type "tuple") = true ∧ ∃ ys, SqT K H b ys)) ∧
  sp [.ref a, .ref b] H (fun v H' => ∃ c : Bool, v = .bl c ∧ Q (.bl c) H') E
theorem op_eqO (F : FnOk X.prog X.w X.K X.mg X.base CX k f fd ps sp) (room : Room k X.A) (hb : Binds X.K fd ps []) (hx : Passes CX X E) (hs : PySem.W.findIn X.K (.ref C) "__eq__" = some (some (.ref f))) (hf : PySem.W.isFn X.K (.ref f) = true) :
    OpR X (compareOp .Eq) (rEqO X.K C sp E) := by
  intro pins st σ H x y u v Q I ru rv hyp
  obtain ⟨a, b, dx, fs, rfl, rfl, ha, hB, hsp⟩ := hyp
  cases ru
  cases rv
  obtain ⟨mA, J, _⟩ := ins_get I.hok ha
  obtain ⟨od, J, _⟩ := J.look
  obtain ⟨m, hF⟩ := I.fr
  show wpAny (model X.prog X.w) X.A (richCompare .Eq (.ref a) (.ref b)) (EP X pins σ Q) X.xe st
  have go : wpAny (model X.prog X.w) X.A (call (.ref f) [.ref a, .ref b]) (PySem.W.CmpBack (EP X pins σ Q)) X.xe st := by
    refine wpAny_mono (run_sub (A := X.A) (vs := [.ref a, .ref b]) F room rfl hb hx I (.cons rfl (.cons rfl .nil)) hsp) (fun v st' got => ?_) fun _ _ z => z
    obtain ⟨v0, H', I', rv, c, ev, hq⟩ := got
    subst ev
    cases rv
    exact ⟨.bl c, H', I', rfl, hq⟩
  rcases hB with ⟨dy, gs, hB⟩ | ⟨nf, ys, hB⟩
  · obtain ⟨mB, J', _⟩ := ins_get I.hok hB
    obtain ⟨od', J', _⟩ := J'.look
    exact PySem.W.cmp_K (op := .Eq) (tb := .ref C) room.units0 hF I.ok.mod.kin J J'.type (by simp [PySem.W.notFirst]) hs hf go
  · obtain ⟨its, _, ⟨ob, hob, hcl, _⟩, _⟩ := I.tuple hB
    have look : PySem.W.Looks (model X.prog X.w) st.heap (typeOf (.ref b)) (.type "tuple") := fun A' Q' E' s' stay hq => wpAny_typeOf_ref (stay _ _ hob) (by rw [hcl]; exact hq)
    exact PySem.W.cmp_K (op := .Eq) (tb := .type "tuple") room.units0 hF I.ok.mod.kin J look nf hs hf go
/-- a != b by the own __eq__ of their class -/
def rNeO (C : Addr) (sp : Sp) (E : XK) : R2 := fun x y H Q => ∃ (a b dx dy : Addr) (fs gs : List (Str × V)), x = .ref a ∧ y = .ref b ∧ H a = some (.ins C dx fs) ∧ H b = some (.ins C dy gs) ∧ sp [.ref a, .ref b] H (fun v H' => ∃ c : Bool, v = .bl c ∧ Q (.bl (!c)) H') E
theorem op_neO (F : FnOk X.prog X.w X.K X.mg X.base CX k f fd ps sp) (room : Room (k + 1) X.A) (hb : Binds X.K fd ps []) (hx : Passes CX X E) (hs : PySem.W.findIn X.K (.ref C) "__eq__" = some (some (.ref f))) (hf : PySem.W.isFn X.K (.ref f) = true)
    (hn : PySem.W.findIn X.K (.ref C) "__ne__" = some (some (.builtin "object.__ne__"))) (hm : PySem.W.mroIn X.K C (.type "object") = some true) : OpR X (compareOp .NotEq) (rNeO C sp E) := by
  intro pins st σ H x y u v Q I ru rv hyp
  obtain ⟨a, b, dx, dy, fs, gs, rfl, rfl, ha, hB, hsp⟩ := hyp
  cases ru
  cases rv
  obtain ⟨mA, J, _⟩ := ins_get I.hok ha
  obtain ⟨od, J, _⟩ := J.look
  obtain ⟨mB, J', _⟩ := ins_get I.hok hB
  obtain ⟨od', J', _⟩ := J'.look
  have kin := I.kIn
  have S := PySem.F.cmp_object.ne
  have sub : PySem.W.Looks (model X.prog X.w) st.heap (isInstance (.ref a) (.type "object")) true := J.type.andThen (PySem.W.looks_mroIn kin hm)
  show wpAny (model X.prog X.w) X.A (richCompare .NotEq (.ref a) (.ref b)) (EP X pins σ Q) X.xe st
  unfold richCompare
  simp only [oneThing_ref]
  refine wpAny_holding (wpAny_bind (wpAny_cRoomFor room.units0 (wpAny_bind (J.type.here (wpAny_bind (J'.type.here ?_))))))
  rw [show (Value.ref C != Value.ref C) = false from by simp]
  simp only [Bool.false_eq_true, if_false, Bool.false_and]
  refine wpAny_bind (wpAny_pure ?_)
  simp only [Bool.false_eq_true, if_false]
  unfold tryCompare
  have body : wpAny (model X.prog X.w) X.A (call (.builtin "object.__ne__") [.ref a, .ref b]) (fun r st' => ∃ c : Bool, r = .bool c ∧ EP X pins σ Q (.bool c) st') X.xe st := by
    refine wpAny_call (codeAny_call_builtin S.plain PySem.F.cmpEntry_ne (PySem.W.check_slot PySem.F.cmpKind_ne PySem.F.cmpSplit_ne sub (PySem.F.cmpArgs_ne _ _) ?_))
    unfold Builtin.«object.__ne__»
    refine wpAny_bind (wpAny_of_eq (a := ((Value.ref a : Value), [Value.ref b])) (by first | rfl | (simp only [slotArgs]; rfl)) ?_)
    refine wpAny_bind (wpAny_cRoomFor room.in1.units0 ?_)
    refine wpAny_bind (PySem.W.ifBound_K kin J hs hf (wpAny_mono (run_sub (A := X.A.in1) (vs := [.ref a, .ref b]) F room.in1 rfl hb hx I (.cons rfl (.cons rfl .nil)) hsp) (fun r st' got => ?_) fun _ _ z => z))
    obtain ⟨v0, H', I', rv, c, ev, hq⟩ := got
    subst ev
    cases rv
    refine wpAny_bind (wpAny_truthy_bool ?_)
    exact wpAny_pure ⟨!c, rfl, .bl (!c), H', I', rfl, hq⟩
  refine wpAny_bind (wpAny_bind ?_)
  simp only [callSpecialIfBound?, bindSpecialIfBound?]
  refine wpAny_holding (wpAny_bind (wpAny_bind (wpAny_bind (J.type.here ((PySem.W.looks_findIn kin hn).here ?_)))))
  simp only [S.bind]
  refine wpAny_bind (wpAny_askSetting (wpAny_ite ?_))
  have last : ∀ {Q' : Option Value → Shared → Prop}, (∀ (c : Bool) st', EP X pins σ Q (.bool c) st' → Q' (some (.bool c)) st') → wpAny (model X.prog X.w) X.A (call (.builtin "object.__ne__") ([.ref a] ++ [.ref b]) >>= fun r => pure (some r)) Q' X.xe st := fun {Q'} hQ' =>
    wpAny_bind (wpAny_mono body (fun r st' ⟨c, er, hq⟩ => by subst er; exact wpAny_pure (hQ' c st' hq)) fun _ _ z => z)
  split
  · refine wpAny_bind (wpAny_pure (wpAny_pure (last fun c st' hq => ?_)))
    first | exact wpAny_pure (wpAny_pure hq) | exact wpAny_pure hq
  · refine wpAny_tryCatch (wpAny_bind (wpAny_pure (wpAny_pure (last fun c st' hq => ?_))))
    first | exact wpAny_pure (wpAny_pure hq) | exact wpAny_pure hq
end
end KW

set_option Elab.async false
set_option maxRecDepth 100000
/-! Rules that speak of no row: by the K that is written, for blocks. -/
namespace KW
open PySem PySem.Spec PyProof.Rows L2
section
variable {X : Cx} {K : PySem.W.Frag} {tg l e : Expr} {tl ta : TE} {f : Str} {pos : Pos}
theorem pi_listK (h : X.K = K) (hl : PE X l tl) : PI X tg l (iList K tl) := by
  subst h
  exact pi_list hl
theorem pi_tupK (h : X.K = K) (hl : PE X l tl) : PI X tg l (iTup K tl) := by
  subst h
  exact pi_tup hl
theorem pe_fldK (h : X.K = K) (he : PE X e ta) (hb : attributeBase e f X.env (eval e X.env) = eval e X.env) : PE X (.Attribute e f pos) (tFld K ta f) := by
  subst h
  exact pe_fld he hb
theorem op_notInK (h : X.K = K) : OpR X (compareOp .NotIn) (rIn K true) := by
  subst h
  exact op_notIn_seq
theorem op_inK (h : X.K = K) : OpR X (compareOp .In) (rIn K false) := by
  subst h
  exact op_in_seq
def rLenSq (K : PySem.W.Frag) : List V → Hp → VK → Prop := fun xs H Q => ∃ p ys, xs = [.ref p] ∧ (SqL K H p ys ∨ SqT K H p ys) ∧ Q (.int ys.length) H
theorem len_seqK (h : X.K = K) : CallR X (.builtin "len") (rLenSq K) := by
  subst h
  exact call_len_seq
theorem sl_tupK (h : X.K = K) : SlR X (rSlT K) := by
  subst h
  exact sl_tup
theorem sl_listK (h : X.K = K) : SlR X (rSlL K) := by
  subst h
  exact sl_list
theorem op_catTK (h : X.K = K) : OpR X (binaryOp .Add) (rCatT K) := by
  subst h
  exact op_catT
theorem cr_sumK (h : X.K = K) (hc : X.calm = true) : CallR X (.builtin "sum") (rSum K) := by
  subst h
  exact cr_sum hc
theorem cr_allK (h : X.K = K) (hc : X.calm = true) : CallR X (.builtin "all") (rAll K) := by
  subst h
  exact cr_all hc
theorem op_eqDK (h : X.K = K) (hu : X.A.units + 64 < cLine) : OpR X (compareOp .Eq) (rEqD K) := by
  subst h
  exact op_eqD hu
theorem op_neDK (h : X.K = K) (hu : X.A.units + 64 < cLine) : OpR X (compareOp .NotEq) (rNeD K) := by
  subst h
  exact op_neD hu
end
end KW

set_option Elab.async false
set_option maxRecDepth 100000
/-! How many ways lead from room to room; plain mathematics. -/
namespace KW
/-! ### sums over lists -/
def sm {α : Type} (xs : List α) (f : α → Nat) : Nat := (xs.map f).sum
theorem sm_nil {α : Type} (f : α → Nat) : sm [] f = 0 := rfl
theorem sm_cons {α : Type} (x : α) (xs : List α) (f : α → Nat) : sm (x :: xs) f = f x + sm xs f := by
  unfold sm
  rw [List.map_cons, List.sum_cons]
theorem sm_app {α : Type} (f : α → Nat) : ∀ xs ys : List α, sm (xs ++ ys) f = sm xs f + sm ys f
  | [], ys => by rw [List.nil_append, sm_nil, Nat.zero_add]
  | x :: xs, ys => by rw [List.cons_append, sm_cons, sm_cons, sm_app f xs ys, Nat.add_assoc]
theorem sm_congr {α : Type} {f g : α → Nat} : ∀ {xs : List α}, (∀ x ∈ xs, f x = g x) → sm xs f = sm xs g
  | [], _ => rfl
  | x :: xs, h => by rw [sm_cons, sm_cons, h x List.mem_cons_self, sm_congr fun y hy => h y (List.mem_cons_of_mem _ hy)]
theorem sm_zero {α : Type} {f : α → Nat} {xs : List α} (h : ∀ x ∈ xs, f x = 0) : sm xs f = 0 := by
  rw [sm_congr (g := fun _ => 0) h]
  induction xs with
  | nil => rfl
  | cons x xs ih => rw [sm_cons, ih fun y hy => h y (List.mem_cons_of_mem _ hy)]
theorem sm_add {α : Type} (f g : α → Nat) : ∀ xs : List α, sm xs (fun x => f x + g x) = sm xs f + sm xs g
  | [] => rfl
  | x :: xs => by
    rw [sm_cons, sm_cons, sm_cons, sm_add f g xs]
    omega
theorem sm_mul {α : Type} (c : Nat) (f : α → Nat) : ∀ xs : List α, sm xs (fun x => c * f x) = c * sm xs f
  | [] => by simp [sm_nil]
  | x :: xs => by rw [sm_cons, sm_cons, sm_mul c f xs, Nat.mul_add]
theorem sm_swap {α β : Type} (f : α → β → Nat) (ys : List β) : ∀ xs : List α, sm xs (fun x => sm ys (f x)) = sm ys fun y => sm xs fun x => f x y
  | [] => by
    rw [sm_nil]
    exact (sm_zero fun _ _ => rfl).symm
  | x :: xs => by
    rw [sm_cons, sm_swap f ys xs, ← sm_add]
    exact sm_congr fun y _ => (sm_cons x xs fun x => f x y).symm
theorem sm_map {α β : Type} (g : α → β) (f : β → Nat) (xs : List α) : sm (xs.map g) f = sm xs fun x => f (g x) := by
  unfold sm
  rw [List.map_map]
  rfl
theorem sm_filter {α : Type} (p : α → Bool) (f : α → Nat) : ∀ xs : List α, sm (xs.filter p) f = sm xs fun x => if p x = true then f x else 0
  | [] => rfl
  | x :: xs => by
    rw [List.filter_cons, sm_cons, ← sm_filter p f xs]
    split
    · rw [sm_cons]
    · rw [Nat.zero_add]
theorem sm_flat {α β : Type} (g : α → List β) (f : β → Nat) : ∀ xs : List α, sm (xs.flatMap g) f = sm xs fun x => sm (g x) f
  | [] => rfl
  | x :: xs => by rw [List.flatMap_cons, sm_app, sm_cons, sm_flat g f xs]
theorem sm_le {α : Type} {f : α → Nat} {c : Nat} : ∀ {xs : List α}, (∀ x ∈ xs, f x ≤ c) → sm xs f ≤ xs.length * c
  | [], _ => by simp [sm_nil]
  | x :: xs, h => by
    have h1 := h x List.mem_cons_self
    have h2 := sm_le (f := f) (c := c) fun y hy => h y (List.mem_cons_of_mem _ hy)
    rw [sm_cons, List.length_cons, Nat.add_mul]
    omega
/-- the one that is i -/
theorem sm_one (f : Nat → Nat) {i : Nat} : ∀ {n : Nat}, sm (List.range n) (fun j => if j = i then f j else 0) = if i < n then f i else 0
  | 0 => by
    rw [if_neg (Nat.not_lt_zero i)]
    rfl
  | n + 1 => by
    rw [List.range_succ, sm_app, sm_one f (n := n), sm_cons, sm_nil]
    by_cases h : n = i
    · subst h
      rw [if_neg (Nat.lt_irrefl n), if_pos rfl, if_pos (Nat.lt_succ_self n)]
      omega
    · rw [if_neg h]
      by_cases h2 : i < n
      · rw [if_pos h2, if_pos (by omega)]
        rfl
      · rw [if_neg h2, if_neg (by omega)]
/-! ### ways -/
/-- a count for each room, one arrow on -/
def nxt (ps : List (Nat × Nat)) (c : Nat → Nat) (j : Nat) : Nat := sm ps fun p => if p.2 = j then c p.1 else 0
def ways (ps : List (Nat × Nat)) : Nat → Nat → Nat → Nat
  | 0, i => fun j => if j = i then 1 else 0
  | k + 1, i => nxt ps (ways ps k i)
theorem ways_succ (ps : List (Nat × Nat)) (k i j : Nat) : ways ps (k + 1) i j = sm ps fun p => if p.2 = j then ways ps k i p.1 else 0 := rfl
/-- ways of a + b arrows, by the room behind a -/
theorem ways_cut {n : Nat} {ps : List (Nat × Nat)} (h : ∀ p ∈ ps, p.1 < n ∧ p.2 < n) (a i : Nat) : ∀ b l : Nat, l < n → sm (List.range n) (fun j => ways ps a i j * ways ps b j l) = ways ps (a + b) i l
  | 0, l, hl => by
    have e : sm (List.range n) (fun j => ways ps a i j * ways ps 0 j l) = sm (List.range n) fun j => if j = l then ways ps a i j else 0 := sm_congr fun j _ => by
      show ways ps a i j * (if l = j then 1 else 0) = _
      by_cases z : l = j
      · rw [if_pos z, if_pos z.symm, Nat.mul_one]
      · rw [if_neg z, if_neg (fun y => z y.symm), Nat.mul_zero]
    rw [e, sm_one, if_pos hl, Nat.add_zero]
  | b + 1, l, hl => by
    rw [← Nat.add_assoc, ways_succ]
    have e : sm (List.range n) (fun j => ways ps a i j * ways ps (b + 1) j l) = sm (List.range n) fun j => sm ps fun p => if p.2 = l then ways ps a i j * ways ps b j p.1 else 0 := sm_congr fun j _ => by
      rw [ways_succ, ← sm_mul]
      refine sm_congr fun p _ => ?_
      split
      · rfl
      · rw [Nat.mul_zero]
    rw [e, sm_swap]
    refine sm_congr fun p hp => ?_
    by_cases z : p.2 = l
    · rw [if_pos z, ← ways_cut h a i b p.1 (h p hp).1]
      exact sm_congr fun j _ => by rw [if_pos z]
    · rw [if_neg z]
      exact sm_zero fun j _ => by rw [if_neg z]
/-- how many rounds there are -/
def rnd (n : Nat) (ps : List (Nat × Nat)) (k : Nat) : Nat := sm (List.range n) fun i => ways ps k i i
/-- a round is a row of a arrows and one of b back -/
theorem rnd_cut {n : Nat} {ps : List (Nat × Nat)} (h : ∀ p ∈ ps, p.1 < n ∧ p.2 < n) (a b : Nat) : sm (List.range n) (fun i => sm (List.range n) fun j => ways ps a i j * ways ps b j i) = rnd n ps (a + b) :=
  sm_congr fun i hi => ways_cut h a i b i (List.mem_range.mp hi)
theorem ways_le {ps : List (Nat × Nat)} : ∀ k i j : Nat, ways ps k i j ≤ ps.length ^ k
  | 0, i, j => by
    show (if j = i then 1 else 0) ≤ 1
    split <;> omega
  | k + 1, i, j => by
    rw [ways_succ, Nat.pow_succ, Nat.mul_comm]
    refine sm_le fun p _ => ?_
    split
    · exact ways_le k i p.1
    · exact Nat.zero_le _
/-! ### rows -/
/-- the arrows behind arrow a -/
def onOf (ps : List (Nat × Nat)) (a : Nat) : List Nat := idxs (ps.map (·.1)) (ps.getD a (0, 0)).2 0
def rowsF (ps : List (Nat × Nat)) : Nat → List (List Nat)
  | 0 => (List.range ps.length).map fun a => [a]
  | k + 1 => (rowsF ps k).flatMap fun r => (onOf ps (r.getLastD 0)).map fun a => r ++ [a]
/-- the numbers of a list with their places, summed -/
theorem sm_idxs {α : Type} (d : α) (f : α → Nat) (key : α → Nat) (r : Nat) : ∀ (ps : List α) (pre : List α), sm (idxs (ps.map key) r pre.length) (fun a => f ((pre ++ ps).getD a d)) = sm ps fun p => if key p = r then f p else 0
  | [], pre => rfl
  | p :: ps, pre => by
    have ih := sm_idxs d f key r ps (pre ++ [p])
    rw [List.append_assoc, List.length_append] at ih
    rw [sm_cons, ← ih, List.map_cons]
    show sm (if key p = r then pre.length :: idxs (ps.map key) r (pre.length + 1) else idxs (ps.map key) r (pre.length + 1)) _ = _
    have e : (pre ++ p :: ps).getD pre.length d = p := by simp [List.getD_eq_getElem?_getD]
    split
    · rw [sm_cons, e]
      rfl
    · rw [Nat.zero_add]
      rfl
theorem sm_idxs0 {α : Type} (d : α) (f : α → Nat) (key : α → Nat) (r : Nat) (ps : List α) : sm (idxs (ps.map key) r 0) (fun a => f (ps.getD a d)) = sm ps fun p => if key p = r then f p else 0 := sm_idxs d f key r ps []
/-- where a row begins and ends -/
def bgn (ps : List (Nat × Nat)) (r : List Nat) : Nat := (ps.getD (r.headD 0) (0, 0)).1
def end_ (ps : List (Nat × Nat)) (r : List Nat) : Nat := (ps.getD (r.getLastD 0) (0, 0)).2
theorem rowsF_ne {ps : List (Nat × Nat)} : ∀ {k : Nat} {r : List Nat}, r ∈ rowsF ps k → r ≠ []
  | 0, r, h => by
    obtain ⟨a, _, e⟩ := List.mem_map.mp h
    rw [← e]
    exact List.cons_ne_nil _ _
  | k + 1, r, h => by
    obtain ⟨q, _, h2⟩ := List.mem_flatMap.mp h
    obtain ⟨a, _, e⟩ := List.mem_map.mp h2
    rw [← e]
    simp
theorem bgn_app {ps : List (Nat × Nat)} {r : List Nat} (h : r ≠ []) (a : Nat) : bgn ps (r ++ [a]) = bgn ps r := by
  cases r with
  | nil => exact absurd rfl h
  | cons x xs => rfl
theorem end_app {ps : List (Nat × Nat)} {r : List Nat} (a : Nat) : end_ ps (r ++ [a]) = (ps.getD a (0, 0)).2 := by
  unfold end_
  rw [List.getLastD_eq_getLast?, List.getLast?_append]
  rfl
theorem sm_places {α : Type} (d : α) (f : α → Nat) (ps : List α) : sm (List.range ps.length) (fun a => f (ps.getD a d)) = sm ps f := by
  have go : ∀ (qs pre : List α), sm (List.range' pre.length qs.length) (fun a => f ((pre ++ qs).getD a d)) = sm qs f := by
    intro qs
    induction qs with
    | nil => intro pre; rfl
    | cons q qs ih =>
      intro pre
      have z := ih (pre ++ [q])
      rw [List.append_assoc, List.length_append] at z
      rw [List.length_cons, List.range'_succ, sm_cons, sm_cons, ← z]
      have e : (pre ++ q :: qs).getD pre.length d = q := by simp [List.getD_eq_getElem?_getD]
      rw [e]
      rfl
  have z := go ps []
  rw [List.range_eq_range']
  exact z
/-- rows of k + 1 arrows from i to j -/
theorem rowsF_ways (ps : List (Nat × Nat)) (i : Nat) : ∀ k j : Nat, sm (rowsF ps k) (fun r => if bgn ps r = i then (if end_ ps r = j then 1 else 0) else 0) = ways ps (k + 1) i j
  | 0, j => by
    show sm ((List.range ps.length).map fun a => [a]) _ = _
    rw [sm_map, ways_succ]
    have e := sm_places (0, 0) (fun p : Nat × Nat => if p.1 = i then (if p.2 = j then 1 else 0) else 0) ps
    refine Eq.trans e (sm_congr fun p _ => ?_)
    show (if p.1 = i then (if p.2 = j then 1 else 0) else 0) = if p.2 = j then (if p.1 = i then 1 else 0) else 0
    split <;> split <;> rfl
  | k + 1, j => by
    show sm ((rowsF ps k).flatMap fun r => (onOf ps (r.getLastD 0)).map fun a => r ++ [a]) _ = _
    rw [sm_flat, ways_succ]
    have e1 : sm (rowsF ps k) (fun r => sm ((onOf ps (r.getLastD 0)).map fun a => r ++ [a]) fun r => if bgn ps r = i then (if end_ ps r = j then 1 else 0) else 0) = sm (rowsF ps k) fun r => sm ps fun p => if p.2 = j then (if bgn ps r = i then (if end_ ps r = p.1 then 1 else 0) else 0) else 0 := sm_congr fun r hr => by
      rw [sm_map]
      have e2 : sm (onOf ps (r.getLastD 0)) (fun a => if bgn ps (r ++ [a]) = i then (if end_ ps (r ++ [a]) = j then 1 else 0) else 0) = sm (onOf ps (r.getLastD 0)) fun a => (fun p : Nat × Nat => if bgn ps r = i then (if p.2 = j then 1 else 0) else 0) (ps.getD a (0, 0)) := sm_congr fun a _ => by
        rw [bgn_app (rowsF_ne hr), end_app]
      rw [e2]
      unfold onOf
      rw [sm_idxs0 (0, 0) (fun p : Nat × Nat => if bgn ps r = i then (if p.2 = j then 1 else 0) else 0) (fun p : Nat × Nat => p.1)]
      refine sm_congr fun p _ => ?_
      show (if p.1 = end_ ps r then (if bgn ps r = i then (if p.2 = j then 1 else 0) else 0) else 0) = _
      by_cases z : end_ ps r = p.1
      · by_cases y : p.2 = j <;> by_cases x : bgn ps r = i <;> simp [z, y, x]
      · have z' : ¬ p.1 = end_ ps r := fun h => z h.symm
        by_cases y : p.2 = j <;> by_cases x : bgn ps r = i <;> simp [z, z', y, x]
    rw [e1, sm_swap]
    refine sm_congr fun p _ => ?_
    by_cases y : p.2 = j
    · rw [if_pos y, ← rowsF_ways ps i k p.1]
      exact sm_congr fun r _ => by rw [if_pos y]
    · rw [if_neg y]
      exact sm_zero fun r _ => by rw [if_neg y]
theorem sm_count {α : Type} (p : α → Bool) : ∀ xs : List α, (xs.filter p).length = sm xs fun x => if p x = true then 1 else 0
  | [] => rfl
  | x :: xs => by
    rw [List.filter_cons, sm_cons, ← sm_count p xs]
    split
    · rw [List.length_cons]
      omega
    · omega
/-- the rows that come round -/
theorem rowsF_round {n : Nat} {ps : List (Nat × Nat)} (h : ∀ p ∈ ps, p.1 < n ∧ p.2 < n) (hn : 1 ≤ n) (k : Nat) : ((rowsF ps k).filter fun r => decide (end_ ps r = bgn ps r)).length = rnd n ps (k + 1) := by
  rw [sm_count]
  unfold rnd
  have e : sm (rowsF ps k) (fun r => if decide (end_ ps r = bgn ps r) = true then 1 else 0) = sm (rowsF ps k) fun r => sm (List.range n) fun i => if bgn ps r = i then (if end_ ps r = i then 1 else 0) else 0 := sm_congr fun r _ => by
    have hb : bgn ps r < n := by
      unfold bgn
      rw [List.getD_eq_getElem?_getD]
      cases q : ps[r.headD 0]? with
      | none => exact hn
      | some p => exact (h p (List.mem_of_getElem? q)).1
    have e3 : sm (List.range n) (fun i => if bgn ps r = i then (if end_ ps r = i then 1 else 0) else 0) = sm (List.range n) fun i => if i = bgn ps r then (fun i => if end_ ps r = i then 1 else 0) i else 0 := sm_congr fun i _ => by
      by_cases z : bgn ps r = i
      · rw [if_pos z, if_pos z.symm]
      · rw [if_neg z, if_neg (fun y => z y.symm)]
    rw [e3, sm_one, if_pos hb]
    by_cases z : end_ ps r = bgn ps r
    · rw [if_pos (decide_eq_true z), if_pos z]
    · rw [if_neg (by simp [z]), if_neg z]
  rw [e, sm_swap]
  exact sm_congr fun i _ => rowsF_ways ps i k i
end KW

set_option Elab.async false
set_option maxRecDepth 100000
/-! Walks that come round: their beats, their least form; plain mathematics. -/
namespace KW
/-- the arrow of a beat -/
def beat (ah rg : List Nat) (i : Nat) : Nat := if i < ah.length then ah.getD i 0 else rg.getD ((i - ah.length) % rg.length) 0
/-- p is a period from N on -/
def Per (s : Nat → Nat) (N p : Nat) : Prop := ∀ i, N ≤ i → s (i + p) = s i
theorem Per.mono {s : Nat → Nat} {N M p : Nat} (h : Per s N p) (l : N ≤ M) : Per s M p := fun i hi => h i (by omega)
theorem Per.sub {s : Nat → Nat} {N p q : Nat} (hp : Per s N p) (hq : Per s N q) (l : q ≤ p) : Per s N (p - q) := fun i hi => by
  have h1 := hq (i + (p - q)) (by omega)
  have h2 := hp i hi
  rw [show i + (p - q) + q = i + p by omega] at h1
  rw [← h1, h2]
theorem Per.mul {s : Nat → Nat} {N p : Nat} (h : Per s N p) : ∀ k, Per s N (p * k)
  | 0 => fun _ _ => rfl
  | k + 1 => fun i hi => by
    rw [Nat.mul_succ, ← Nat.add_assoc, h (i + p * k) (by omega)]
    exact Per.mul h k i hi
theorem Per.mod {s : Nat → Nat} {N p q : Nat} (hp : Per s N p) (hq : Per s N q) : Per s N (p % q) := by
  have e : p % q = p - q * (p / q) := by
    have := Nat.div_add_mod p q
    omega
  rw [e]
  exact hp.sub (hq.mul _) (Nat.mul_div_le p q)
theorem Per.gcd {s : Nat → Nat} {N : Nat} (p q : Nat) : Per s N p → Per s N q → Per s N (Nat.gcd p q) := by
  induction p, q using Nat.gcd.induction with
  | H0 q => exact fun _ h => by rw [Nat.gcd_zero_left]; exact h
  | H1 p q hp ih =>
    intro h1 h2
    rw [Nat.gcd_rec]
    exact ih (h2.mod h1) h1
theorem beat_per (ah rg : List Nat) : Per (beat ah rg) ah.length rg.length := fun i hi => by
  unfold beat
  rw [if_neg (by omega), if_neg (by omega), show i + rg.length - ah.length = (i - ah.length) + rg.length by omega, Nat.add_mod_right]
/-- in its least form: no shorter ring, no arrow ahead that the ring tells -/
structure Red (ah rg : List Nat) : Prop where
  ne : rg ≠ []
  prim : ∀ g, 0 < g → g < rg.length → rg.length % g = 0 → ∃ i, i < rg.length ∧ rg.getD ((i + g) % rg.length) 0 ≠ rg.getD i 0
  last : ah ≠ [] → ah.getLastD 0 ≠ rg.getLastD 0
theorem getLastD_at {l : List Nat} (h : l ≠ []) : l.getLastD 0 = l.getD (l.length - 1) 0 := by
  rw [List.getLastD_eq_getLast?, List.getLast?_eq_getElem?, List.getD_eq_getElem?_getD]
theorem beat_ring {ah rg : List Nat} (h : rg ≠ []) (i k : Nat) (hi : i < rg.length) : beat ah rg (ah.length + i + rg.length * k) = rg.getD i 0 := by
  unfold beat
  rw [if_neg (by omega), show ah.length + i + rg.length * k - ah.length = i + rg.length * k by omega, Nat.add_mul_mod_self_left, Nat.mod_eq_of_lt hi]
/-- two rings of one walk are as long -/
theorem red_dvd {a r a' r' : List Nat} (h : Red a r) (h' : r' ≠ []) (e : ∀ i, beat a r i = beat a' r' i) : r'.length % r.length = 0 := by
  have hp : 0 < r.length := List.length_pos_iff.mpr h.ne
  have hp' : 0 < r'.length := List.length_pos_iff.mpr h'
  have s1 : Per (beat a r) (a.length + a'.length) r.length := (beat_per a r).mono (by omega)
  have s2 : Per (beat a r) (a.length + a'.length) r'.length := by
    have z := (beat_per a' r').mono (M := a.length + a'.length) (by omega)
    intro i hi
    rw [e, e]
    exact z i hi
  have sg := Per.gcd _ _ s1 s2
  have gp : 0 < Nat.gcd r.length r'.length := Nat.gcd_pos_of_pos_left _ hp
  have gl : Nat.gcd r.length r'.length ≤ r.length := Nat.gcd_le_left _ hp
  have gd : r.length % Nat.gcd r.length r'.length = 0 := Nat.mod_eq_zero_of_dvd (Nat.gcd_dvd_left _ _)
  by_cases q : Nat.gcd r.length r'.length < r.length
  · obtain ⟨i, hi, no⟩ := h.prim _ gp q gd
    exfalso
    apply no
    have big : a.length + a'.length ≤ a.length + i + r.length * (a'.length) := by
      have : a'.length ≤ r.length * a'.length := Nat.le_mul_of_pos_left _ hp
      omega
    have z := sg _ big
    rw [beat_ring h.ne i _ hi] at z
    rw [← z]
    unfold beat
    rw [if_neg (by omega)]
    congr 1
    rw [show a.length + i + r.length * a'.length + Nat.gcd r.length r'.length - a.length = (i + Nat.gcd r.length r'.length) + r.length * a'.length by omega, Nat.add_mul_mod_self_left]
  · have eg : Nat.gcd r.length r'.length = r.length := by omega
    have d : r.length ∣ r'.length := by
      have := Nat.gcd_dvd_right r.length r'.length
      rw [eg] at this
      exact this
    exact Nat.mod_eq_zero_of_dvd d
theorem red_ahead {a r a' r' : List Nat} (h' : Red a' r') (hr : r ≠ []) (e : ∀ i, beat a r i = beat a' r' i) (hl : r'.length = r.length) : a'.length ≤ a.length := by
  by_cases q : a'.length ≤ a.length
  · exact q
  exfalso
  have hp : 0 < r'.length := List.length_pos_iff.mpr h'.ne
  have an : a' ≠ [] := fun z => by
    rw [z] at q
    exact q (Nat.zero_le _)
  apply h'.last an
  have z := beat_per a r (a'.length - 1) (by omega)
  rw [e, e, ← hl] at z
  have e1 : beat a' r' (a'.length - 1) = a'.getLastD 0 := by
    rw [getLastD_at an]
    unfold beat
    rw [if_pos (by have := List.length_pos_iff.mpr an; omega)]
  have e2 : beat a' r' (a'.length - 1 + r'.length) = r'.getLastD 0 := by
    rw [getLastD_at h'.ne]
    unfold beat
    have := List.length_pos_iff.mpr an
    rw [if_neg (by omega), show a'.length - 1 + r'.length - a'.length = r'.length - 1 by omega, Nat.mod_eq_of_lt (by omega)]
  rw [e1, e2] at z
  exact z.symm
/-- the least form is the only one -/
theorem red_one {a r a' r' : List Nat} (h : Red a r) (h' : Red a' r') (e : ∀ i, beat a r i = beat a' r' i) : a = a' ∧ r = r' := by
  have hp : 0 < r.length := List.length_pos_iff.mpr h.ne
  have hp' : 0 < r'.length := List.length_pos_iff.mpr h'.ne
  have d1 := red_dvd h h'.ne e
  have d2 := red_dvd h' h.ne fun i => (e i).symm
  have hl : r.length = r'.length := Nat.dvd_antisymm (Nat.dvd_of_mod_eq_zero d1) (Nat.dvd_of_mod_eq_zero d2)
  have l1 := red_ahead h' h.ne e hl.symm
  have l2 := red_ahead h h'.ne (fun i => (e i).symm) hl
  have la : a.length = a'.length := by omega
  refine ⟨List.ext_getElem la fun i h1 h2 => ?_, List.ext_getElem hl fun i h1 h2 => ?_⟩
  · have z := e i
    unfold beat at z
    rw [if_pos h1, if_pos h2, List.getD_eq_getElem?_getD, List.getD_eq_getElem?_getD, List.getElem?_eq_getElem h1, List.getElem?_eq_getElem h2] at z
    exact z
  · have z := e (a.length + i + r.length * 0)
    rw [beat_ring h.ne i 0 h1] at z
    rw [la, hl, beat_ring h'.ne i 0 h2, List.getD_eq_getElem?_getD, List.getD_eq_getElem?_getD, List.getElem?_eq_getElem h1, List.getElem?_eq_getElem h2] at z
    exact z
/-! ### the shortest ring -/
/-- the first g of the ring, again and again, are the ring -/
def perOk (rg : List Nat) (g : Nat) : Prop := rg.length % g = 0 ∧ ∀ i, i < rg.length → rg.getD (i % g) 0 = rg.getD i 0
theorem take_getD {rg : List Nat} {g i : Nat} (h : i < g) : (rg.take g).getD i 0 = rg.getD i 0 := by
  rw [List.getD_eq_getElem?_getD, List.getD_eq_getElem?_getD, List.getElem?_take, if_pos h]
theorem mod_mod_of {a b g : Nat} (h : b % g = 0) : a % b % g = a % g := Nat.mod_mod_of_dvd a (Nat.dvd_of_mod_eq_zero h)
/-- a part of the ring tells the same walk -/
theorem beat_part {ah rg : List Nat} {g : Nat} (hg : 0 < g) (hl : g ≤ rg.length) (h : perOk rg g) (i : Nat) : beat ah (rg.take g) i = beat ah rg i := by
  unfold beat
  split
  · rfl
  · have lt : (rg.take g).length = g := by rw [List.length_take]; omega
    rw [lt, take_getD (Nat.mod_lt _ hg), ← h.2 _ (Nat.mod_lt (i - ah.length) (show 0 < rg.length by omega)), mod_mod_of h.1]
/-- the least such part is no longer a repetition -/
theorem part_prim {rg : List Nat} {g : Nat} (hg : 0 < g) (hl : g ≤ rg.length) (h : perOk rg g) (least : ∀ d, 0 < d → d < g → ¬ perOk rg d) : ∀ d, 0 < d → d < (rg.take g).length → (rg.take g).length % d = 0 → ∃ i, i < (rg.take g).length ∧ (rg.take g).getD ((i + d) % (rg.take g).length) 0 ≠ (rg.take g).getD i 0 := by
  intro d d0 d1 dd
  have lt : (rg.take g).length = g := by rw [List.length_take]; omega
  rw [lt] at d1 dd ⊢
  by_cases q : ∃ i, i < g ∧ (rg.take g).getD ((i + d) % g) 0 ≠ (rg.take g).getD i 0
  · exact q
  exfalso
  have all : ∀ i, i < g → rg.getD ((i + d) % g) 0 = rg.getD i 0 := fun i hi => by
    by_cases z : (rg.take g).getD ((i + d) % g) 0 = (rg.take g).getD i 0
    · rw [take_getD (Nat.mod_lt _ hg), take_getD hi] at z
      exact z
    · exact absurd ⟨i, hi, z⟩ q
  -- by d steps back
  have down : ∀ k i, i + d * k < g → rg.getD (i + d * k) 0 = rg.getD i 0 := by
    intro k
    induction k with
    | zero => intro i _; rfl
    | succ k ih =>
      intro i hi
      rw [Nat.mul_succ] at hi ⊢
      have z := all (i + d * k) (by omega)
      rw [Nat.mod_eq_of_lt (by omega)] at z
      rw [← Nat.add_assoc, z]
      exact ih i (by omega)
  refine least d d0 d1 ⟨?_, fun i hi => ?_⟩
  · exact Nat.mod_eq_zero_of_dvd (Nat.dvd_trans (Nat.dvd_of_mod_eq_zero dd) (Nat.dvd_of_mod_eq_zero h.1))
  · have e1 : i % g % d = i % d := mod_mod_of dd
    have hm : i % g < g := Nat.mod_lt _ hg
    have z := down (i % g / d) (i % g % d) (by
      have := Nat.mod_add_div (i % g) d
      omega)
    rw [Nat.mod_add_div, e1] at z
    rw [← z, h.2 i hi]
theorem perOk_self (rg : List Nat) : perOk rg rg.length := ⟨Nat.mod_self _, fun i hi => by rw [Nat.mod_eq_of_lt hi]⟩
/-! ### fewer arrows ahead -/
/-- the ring that begins one arrow earlier -/
def back1 (rg : List Nat) : List Nat := rg.getLastD 0 :: rg.dropLast
theorem back1_len {rg : List Nat} (h : rg ≠ []) : (back1 rg).length = rg.length := by
  unfold back1
  rw [List.length_cons, List.length_dropLast]
  have := List.length_pos_iff.mpr h
  omega
theorem back1_at {rg : List Nat} (h : rg ≠ []) {i : Nat} (hi : i < rg.length) : (back1 rg).getD ((i + 1) % rg.length) 0 = rg.getD i 0 := by
  have hp := List.length_pos_iff.mpr h
  by_cases e : i + 1 = rg.length
  · rw [e, Nat.mod_self]
    show rg.getLastD 0 = _
    rw [getLastD_at h, show rg.length - 1 = i by omega]
  · rw [Nat.mod_eq_of_lt (by omega)]
    show (rg.dropLast).getD i 0 = _
    rw [List.getD_eq_getElem?_getD, List.getD_eq_getElem?_getD, List.getElem?_dropLast, if_pos (by omega)]
/-- an arrow ahead that the ring tells is left out -/
theorem beat_back {ah rg : List Nat} (h : rg ≠ []) (i : Nat) : beat ah (back1 rg) i = beat (ah ++ [rg.getLastD 0]) rg i := by
  have hp := List.length_pos_iff.mpr h
  unfold beat
  rw [List.length_append, back1_len h]
  show _ = if i < ah.length + 1 then _ else _
  by_cases q : i < ah.length
  · rw [if_pos q, if_pos (by omega), List.getD_eq_getElem?_getD, List.getD_eq_getElem?_getD, List.getElem?_append_left q]
  · rw [if_neg q]
    by_cases e : i = ah.length
    · rw [if_pos (by omega), e, Nat.sub_self, Nat.zero_mod]
      show rg.getLastD 0 = _
      rw [List.getD_eq_getElem?_getD, List.getElem?_append_right (Nat.le_refl _), Nat.sub_self]
      rfl
    · rw [if_neg (by omega)]
      have z := back1_at h (i := (i - (ah.length + 1)) % rg.length) (Nat.mod_lt _ hp)
      refine Eq.trans ?_ z
      congr 1
      rw [show i - ah.length = (i - (ah.length + 1)) + 1 by omega, Nat.mod_add_mod]
end KW

set_option Elab.async false
set_option maxRecDepth 100000
/-! Rings turned, walks that follow; plain mathematics. -/
namespace KW
/-- the ring from place c on -/
def rot (l : List Nat) (c : Nat) : List Nat := l.drop c ++ l.take c
theorem rot_len {l : List Nat} {c : Nat} (h : c ≤ l.length) : (rot l c).length = l.length := by
  unfold rot
  rw [List.length_append, List.length_drop, List.length_take]
  omega
theorem rot_getD {l : List Nat} {c i : Nat} (hc : c ≤ l.length) (hi : i < l.length) : (rot l c).getD i 0 = l.getD ((i + c) % l.length) 0 := by
  unfold rot
  rw [List.getD_eq_getElem?_getD, List.getD_eq_getElem?_getD]
  by_cases q : i < l.length - c
  · rw [List.getElem?_append_left (by rw [List.length_drop]; exact q), List.getElem?_drop, Nat.mod_eq_of_lt (by omega), Nat.add_comm]
  · rw [List.getElem?_append_right (by rw [List.length_drop]; omega), List.length_drop, List.getElem?_take, if_pos (by omega), Nat.mod_eq_sub_mod (by omega), Nat.mod_eq_of_lt (by omega)]
    congr 2
    omega
theorem ext_getD {l m : List Nat} (hl : l.length = m.length) (h : ∀ i, i < l.length → l.getD i 0 = m.getD i 0) : l = m := by
  refine List.ext_getElem hl fun i h1 h2 => ?_
  have z := h i h1
  rw [List.getD_eq_getElem?_getD, List.getD_eq_getElem?_getD, List.getElem?_eq_getElem h1, List.getElem?_eq_getElem h2] at z
  exact z
theorem rot_ne {l : List Nat} {c : Nat} (hc : c ≤ l.length) (h : l ≠ []) : rot l c ≠ [] := fun z => by
  have := rot_len hc
  rw [z] at this
  exact h (List.length_eq_zero_iff.mp this.symm)
theorem rot_last {l : List Nat} {c : Nat} (hc : c < l.length) : (rot l c).getLastD 0 = l.getD ((c + l.length - 1) % l.length) 0 := by
  have hn : l ≠ [] := fun z => by rw [z] at hc; exact absurd hc (Nat.not_lt_zero _)
  rw [getLastD_at (rot_ne (by omega) hn), rot_len (by omega), rot_getD (by omega) (by omega), show l.length - 1 + c = c + l.length - 1 by omega]
theorem back1_getD {r : List Nat} (h : r ≠ []) {i : Nat} (hi : i < r.length) : (back1 r).getD i 0 = r.getD ((i + r.length - 1) % r.length) 0 := by
  have hp := List.length_pos_iff.mpr h
  have z := back1_at h (i := (i + r.length - 1) % r.length) (Nat.mod_lt _ hp)
  rw [← z]
  congr 1
  rw [Nat.mod_add_mod, show i + r.length - 1 + 1 = i + r.length by omega, Nat.add_mod_right, Nat.mod_eq_of_lt hi]
theorem back1_rot {l : List Nat} {c : Nat} (hc : c < l.length) : back1 (rot l c) = rot l ((c + l.length - 1) % l.length) := by
  have hn : l ≠ [] := fun z => by rw [z] at hc; exact absurd hc (Nat.not_lt_zero _)
  have hr := rot_ne (c := c) (by omega) hn
  have hl := rot_len (l := l) (c := c) (by omega)
  have hp : 0 < l.length := by omega
  have hm := Nat.mod_lt (c + l.length - 1) hp
  refine ext_getD (by rw [back1_len hr, hl, rot_len (by omega)]) fun i hi => ?_
  rw [back1_len hr, hl] at hi
  rw [back1_getD hr (by omega), hl, rot_getD (by omega) (Nat.mod_lt _ hp), rot_getD (by omega) hi, Nat.mod_add_mod, Nat.add_mod_mod]
  congr 2
  omega
/-- no shorter ring -/
def Prim (rg : List Nat) : Prop := ∀ g, 0 < g → g < rg.length → rg.length % g = 0 → ∃ i, i < rg.length ∧ rg.getD ((i + g) % rg.length) 0 ≠ rg.getD i 0
theorem rot_prim {l : List Nat} {c : Nat} (hc : c < l.length) (h : Prim l) : Prim (rot l c) := by
  intro g g0 g1 gd
  have hl := rot_len (l := l) (c := c) (by omega)
  rw [hl] at g1 gd ⊢
  have hp : 0 < l.length := by omega
  obtain ⟨i, hi, ne⟩ := h g g0 g1 gd
  refine ⟨(i + l.length - c) % l.length, Nat.mod_lt _ hp, fun z => ne ?_⟩
  rw [rot_getD (by omega) (Nat.mod_lt _ hp), rot_getD (by omega) (Nat.mod_lt _ hp)] at z
  have e1 : (((i + l.length - c) % l.length + g) % l.length + c) % l.length = (i + g) % l.length := by
    rw [Nat.mod_add_mod, Nat.add_assoc, Nat.mod_add_mod, show i + l.length - c + (g + c) = i + g + l.length by omega, Nat.add_mod_right]
  have e2 : ((i + l.length - c) % l.length + c) % l.length = i := by
    rw [Nat.mod_add_mod, show i + l.length - c + c = i + l.length by omega, Nat.add_mod_right, Nat.mod_eq_of_lt hi]
  rw [e1, e2] at z
  exact z
theorem rot_zero (l : List Nat) : rot l 0 = l := by
  unfold rot
  rw [List.drop_zero, List.take_zero, List.append_nil]
/-! ### repeated parts -/
theorem rep_get (xs : List Nat) (h : xs ≠ []) : ∀ (k i : Nat), i < k * xs.length → ((List.replicate k xs).flatten).getD i 0 = xs.getD (i % xs.length) 0
  | 0, i, hi => by simp at hi
  | k + 1, i, hi => by
    rw [List.replicate_succ, List.flatten_cons, List.getD_eq_getElem?_getD]
    by_cases q : i < xs.length
    · rw [List.getElem?_append_left q, Nat.mod_eq_of_lt q, List.getD_eq_getElem?_getD]
    · have e : (k + 1) * xs.length = k * xs.length + xs.length := Nat.succ_mul _ _
      rw [List.getElem?_append_right (by omega), ← List.getD_eq_getElem?_getD, rep_get xs h k (i - xs.length) (by omega), Nat.mod_eq_sub_mod (a := i) (by omega)]
theorem rep_len (xs : List Nat) (k : Nat) : ((List.replicate k xs).flatten).length = k * xs.length := by
  induction k with
  | zero => simp
  | succ k ih => rw [List.replicate_succ, List.flatten_cons, List.length_append, ih, Nat.succ_mul, Nat.add_comm]
theorem rep_iff {rg : List Nat} {g : Nat} (hg : 0 < g) (hl : g ≤ rg.length) (hd : rg.length % g = 0) : (List.replicate (rg.length / g) (rg.take g)).flatten = rg ↔ perOk rg g := by
  have lt : (rg.take g).length = g := by rw [List.length_take]; omega
  have tn : rg.take g ≠ [] := fun z => by rw [z] at lt; simp at lt; omega
  have hk : rg.length / g * g = rg.length := Nat.div_mul_cancel (Nat.dvd_of_mod_eq_zero hd)
  have hlen : ((List.replicate (rg.length / g) (rg.take g)).flatten).length = rg.length := by rw [rep_len, lt, hk]
  constructor
  · intro e
    refine ⟨hd, fun i hi => ?_⟩
    have z := rep_get (rg.take g) tn (rg.length / g) i (by rw [lt, hk]; exact hi)
    rw [e, lt, take_getD (Nat.mod_lt _ hg)] at z
    exact z.symm
  · intro p
    refine ext_getD hlen fun i hi => ?_
    rw [hlen] at hi
    rw [rep_get (rg.take g) tn (rg.length / g) i (by rw [lt, hk]; exact hi), lt, take_getD (Nat.mod_lt _ hg)]
    exact p.2 i hi
/-! ### walks that follow -/
/-- each beat is an arrow, and follows the one ahead of it -/
def OkW (ps : List (Nat × Nat)) (s : Nat → Nat) : Prop := ∀ i, s i < ps.length ∧ (ps.getD (s i) (0, 0)).2 = (ps.getD (s (i + 1)) (0, 0)).1
theorem OkW.to {ps : List (Nat × Nat)} {s t : Nat → Nat} (h : OkW ps s) (e : ∀ i, s i = t i) : OkW ps t := fun i => by
  rw [← e, ← e]
  exact h i
theorem beat_lt {ah rg : List Nat} {i : Nat} (h : i < ah.length) : beat ah rg i = ah.getD i 0 := by
  unfold beat
  rw [if_pos h]
theorem beat_ge {ah rg : List Nat} {i : Nat} (h : ah.length ≤ i) : beat ah rg i = rg.getD ((i - ah.length) % rg.length) 0 := by
  unfold beat
  rw [if_neg (by omega)]
theorem beat_laid {ah rg : List Nat} {i : Nat} (h : i < ah.length + rg.length) : beat ah rg i = (ah ++ rg).getD i 0 := by
  rw [List.getD_eq_getElem?_getD]
  by_cases q : i < ah.length
  · rw [beat_lt q, List.getElem?_append_left q, List.getD_eq_getElem?_getD]
  · rw [beat_ge (by omega), List.getElem?_append_right (by omega), Nat.mod_eq_of_lt (by omega), List.getD_eq_getElem?_getD]
/-- where laid together they follow, and the ring closes, every beat does -/
theorem okW_of {ps : List (Nat × Nat)} {ah rg : List Nat} (hn : rg ≠ []) (h1 : ∀ i, i < ah.length + rg.length → (ah ++ rg).getD i 0 < ps.length) (h2 : ∀ i, i + 1 < ah.length + rg.length → (ps.getD ((ah ++ rg).getD i 0) (0, 0)).2 = (ps.getD ((ah ++ rg).getD (i + 1) 0) (0, 0)).1)
    (h3 : (ps.getD (rg.getLastD 0) (0, 0)).2 = (ps.getD (rg.headD 0) (0, 0)).1) : OkW ps (beat ah rg) := by
  have hp := List.length_pos_iff.mpr hn
  -- a beat is one of those laid
  have red : ∀ i, ∃ j, j < ah.length + rg.length ∧ beat ah rg i = (ah ++ rg).getD j 0 ∧ ((j + 1 < ah.length + rg.length ∧ beat ah rg (i + 1) = (ah ++ rg).getD (j + 1) 0) ∨ (j + 1 = ah.length + rg.length ∧ beat ah rg (i + 1) = rg.headD 0)) := by
    intro i
    by_cases q : i < ah.length
    · refine ⟨i, by omega, beat_laid (by omega), .inl ⟨by omega, beat_laid (by omega)⟩⟩
    · have hm := Nat.mod_lt (i - ah.length) hp
      have e : ∀ j, j < rg.length → (ah ++ rg).getD (ah.length + j) 0 = rg.getD j 0 := fun j hj => by
        rw [List.getD_eq_getElem?_getD, List.getElem?_append_right (by omega), List.getD_eq_getElem?_getD]
        congr 2
        omega
      refine ⟨ah.length + (i - ah.length) % rg.length, by omega, by rw [beat_ge (by omega), e _ hm], ?_⟩
      have e2 : beat ah rg (i + 1) = rg.getD (((i - ah.length) % rg.length + 1) % rg.length) 0 := by
        rw [beat_ge (by omega), Nat.mod_add_mod, show i + 1 - ah.length = i - ah.length + 1 by omega]
      by_cases q2 : (i - ah.length) % rg.length + 1 < rg.length
      · exact .inl ⟨by omega, by rw [e2, Nat.mod_eq_of_lt q2, Nat.add_assoc, e _ q2]⟩
      · refine .inr ⟨by omega, ?_⟩
        rw [e2, show (i - ah.length) % rg.length + 1 = rg.length by omega, Nat.mod_self]
        cases rg with
        | nil => exact absurd rfl hn
        | cons a r => rfl
  intro i
  obtain ⟨j, hj, e1, e2⟩ := red i
  refine ⟨by rw [e1]; exact h1 j hj, ?_⟩
  rcases e2 with ⟨q, e2⟩ | ⟨q, e2⟩
  · rw [e1, e2]
    exact h2 j q
  · have el : (ah ++ rg).getD j 0 = rg.getLastD 0 := by
      rw [getLastD_at hn, List.getD_eq_getElem?_getD, List.getElem?_append_right (by omega), List.getD_eq_getElem?_getD]
      congr 2
      omega
    rw [e1, e2, el]
    exact h3
/-- and the other way about -/
theorem okW_laid {ps : List (Nat × Nat)} {ah rg : List Nat} (hn : rg ≠ []) (h : OkW ps (beat ah rg)) : (∀ i, i < ah.length + rg.length → (ah ++ rg).getD i 0 < ps.length) ∧ (∀ i, i + 1 < ah.length + rg.length → (ps.getD ((ah ++ rg).getD i 0) (0, 0)).2 = (ps.getD ((ah ++ rg).getD (i + 1) 0) (0, 0)).1) ∧
    (ps.getD (rg.getLastD 0) (0, 0)).2 = (ps.getD (rg.headD 0) (0, 0)).1 := by
  have hp := List.length_pos_iff.mpr hn
  refine ⟨fun i hi => ?_, fun i hi => ?_, ?_⟩
  · rw [← beat_laid hi]
    exact (h i).1
  · rw [← beat_laid hi, ← beat_laid (by omega)]
    exact (h i).2
  · have z := (h (ah.length + rg.length - 1)).2
    have e1 : beat ah rg (ah.length + rg.length - 1) = rg.getLastD 0 := by
      rw [getLastD_at hn, beat_ge (by omega), show ah.length + rg.length - 1 - ah.length = rg.length - 1 by omega, Nat.mod_eq_of_lt (by omega)]
    have e2 : beat ah rg (ah.length + rg.length - 1 + 1) = rg.headD 0 := by
      rw [beat_ge (by omega), show ah.length + rg.length - 1 + 1 - ah.length = rg.length by omega, Nat.mod_self]
      cases rg with
      | nil => exact absurd rfl hn
      | cons a r => rfl
    rw [e1, e2] at z
    exact z
end KW

set_option Elab.async false
set_option maxRecDepth 100000
set_option maxHeartbeats 2000000
/-! Rules that speak of no row: refusals are made and raised where nothing is handled. -/
namespace KW
open PySem PySem.Spec PyProof.Rows L2
/-- the exceptions that a def lets out, their context None -/
abbrev CN (P : Program) (w : World) : CXT := L2N.CX P w
section
variable {P : Program} {w : World} {K : PySem.W.Frag} {mg : Str → Option Value} {base : Heap}
theorem okN {x qual : Str} {st : Stmt} {f : Addr} {fd : FuncData} {N ps : List Str} {k : Nat} {sp : Sp} (F : Fun K x qual st f fd) (S : FnScope N ps (defScope st)) (len : ∀ vs H Q E, sp vs H Q E → vs.length = ps.length)
    (body : ∀ (cdv : Value) (A : Around) (outer : List Env) (s : Shared) (H : Hp) (vs : List V) (Q : VK) (E : XK), Room k (A.deeper (envOfC qual (defScope st) s.heap.objs.size f cdv)) → sp vs H Q E →
      ∃ t, PSs (cxOf (CN P w) P w K mg base N qual (defScope st) f cdv A outer s H E) (defBody st) t ∧ t { nx := fun _ H' => Q .non H', rt := Q } (start N vs) H) : FnOk P w K mg base (CN P w) (k + 1) f fd ps sp := by
  obtain ⟨c0, d0, kw, dc, pm, an, cv, ct, sl, rfl, look, code⟩ := F.ex
  exact fn_of look code S len fun A outer s H vs Q E room hyp => body cv A outer s H vs Q E room hyp
theorem takesN {N : List Str} {qual : Str} {scope : Scope} {f : Addr} {cd : Value} {A : Around} {outer : List Env} {s : Shared} {H : Hp} {E : XK} :
    L2N.Takes (cxOf (CN P w) P w K mg base N qual scope f cd A outer s H E) (fun cls d _ H' => E cls d H') :=
  L2N.takes_of rfl rfl rfl rfl
theorem passN {N : List Str} {qual : Str} {scope : Scope} {f : Addr} {cd : Value} {A : Around} {outer : List Env} {s : Shared} {H : Hp} {E : XK} :
    Passes (CN P w) (cxOf (CN P w) P w K mg base N qual scope f cd A outer s H E) E := L2N.passes_call takesN fun _ _ _ _ z => z
end
section
variable {X : Cx} {CX : CXT} {k : Nat} {f C fI : Addr} {fd : FuncData} {ps : List Str} {sp : Sp} {E : XK} {x m : Str} {mc : Value} {o e : Expr} {es : List Expr} {ta : TE} {t : TA} {p pos apos : Pos}
/-- C.m(e, ..), m a def of the class C: the very def -/
def tUCall (C : Addr) (sp : Sp) (E : XK) (ta : TE) (t : TA) : TE := fun σ H Q => ta σ H fun x H1 => x = .ref C ∧ t σ H1 fun vs H2 => sp vs H2 Q E
theorem pe_ucall {pl : Sem Bool} (ho : PE X o ta) (r : ClX.CRead X.K C mc) (found : PySem.W.findCls X.K (.ref C) mc m = some (.val (.ref f))) (F : FnOk X.prog X.w X.K X.mg X.base CX k f fd ps sp) (room : Room k X.A) (kp : PySem.W.keepIn X.K (.ref f) = true)
    (hb : Binds X.K fd ps []) (hx : Passes CX X E) (ha : PA X (e :: es) t)
    (hst : starEach (e :: es) X.env = (false, eval e X.env) :: starEach es X.env := by rfl) (hpl : (backTo pos (starEach es X.env)).any (·.1) = false := by rfl)
    (way : eval (.Call (.Attribute o m apos) (e :: es) [] pos) X.env = (do
      let o1 ← eval o X.env
      standAt apos.atName
      let (g, pre) ← holding [o1] (getMethod o1 m pl)
      callWith pos g pre (backTo pos (starEach (e :: es) X.env)) (backToKw pos (keywordEach [] X.env))) := by rfl) :
    PE X (.Call (.Attribute o m apos) (e :: es) [] pos) (tUCall C sp E ta t) := by
  refine ⟨fun pins st σ H Q I hyp => ?_⟩
  refine PySem.W.methodCall_KW (pl := pl) (thn (ho.run pins st σ H _ I hyp) fun u s1 ⟨y, H1, I1, ry, ey, rest⟩ => ?_) way
  subst ey
  obtain rfl : u = Value.ref C := ry
  refine PySem.W.method_cls I1.kIn r.ga (PySem.W.cls_value I1.kIn r.rd found (handed_of (v := .ref f) rfl) ?_)
  refine PySem.W.callWith_K (h₀ := X.base) I1.ok.mod.kin kp (thn (ha.run pos pins _ σ H1 _ (I1.tok _) rest) fun us s2 ⟨vs, H2, I2, rv, q2⟩ => ⟨I2.kIn, ?_⟩) hst hpl
  have q3 : sp (vs ++ []) H2 Q E := by rw [List.append_nil]; exact q2
  exact run_fn (ds := []) (dvs := []) F room hb .nil hx I2 rv q3
/-- what is left of a made exception -/
theorem made_end {pins : List (Addr × Obj)} {σ : L2.St} {H1 H2 : Hp} {Q : XK} {hp hp2 h2 : Heap} {g1 g2 : Array GenState} {r1 r2 : Drawn} {n1 n2 : Nat} {os1 os2 : OsState} {a d : Addr} {fs : List (Str × V)} (T : Raises X (.ref C)) (I1 : Inv X pins σ H1 ⟨hp, g1, r1, n1, os1⟩)
    (ha : hp.objs.size ≤ a) (kk : ∀ b o, hp.get? b = some o → hp2.get? b = some o) (un : Un (frs X.stack) [] (upd H1 a (exo a C none)) H2 hp2 h2) (ok2 : HOk X.prog X.w H2 h2) (eos : os2 = os1) (bare : AllBare g2)
    (ea : H2 a = some (exo a C (some d))) (ed : H2 d = some (exd d fs)) (nd : H1 d = none) (q : Q (.ref C) (some d) (upd (del H2 a) d (.xd fs))) : L2N.MkP X pins σ Q (.ref a) ⟨h2, g2, r2, n2, os2⟩ := by
  obtain ⟨t0, G, J, kG, gone, there, na⟩ := mk_end0 (d2 := r2) (t2 := n2) I1 ha kk un ok2 eos bare ea ed nd
  exact ⟨a, _, _, ⟨G, g2, r2, n2, os2⟩, _, .ref C, some d, rfl, J, kG, gone, there, ⟨rfl, rfl, fun vs hv => by cases hv; rfl⟩, rfl, rfl, na, rfl, bare, T, q⟩
/-- the call C(..) itself, us its arguments -/
theorem made_call {pins : List (Addr × Obj)} {σ : L2.St} {H1 : Hp} {Q : XK} {st : Shared} {us : List Value} {vs : List V} (T : OexC X.K C) (iC : PySem.W.findIn X.K (.ref C) "__init__" = some (some (.ref fI))) (tI : PySem.W.typeIn X.K (.ref fI) = some (.type "function"))
    (F1 : FnOk X.prog X.w X.K X.mg X.base CX k fI fd ps sp) (room : Room (k + 1) X.A) (hb : Binds X.K fd ps []) (hx : Passes CX X (fun _ _ _ => False)) (I1 : Inv X pins σ H1 st) (rel : Vals vs us) (few : vs.length ≤ 1000)
    (hyp : ∀ a, H1 a = none → sp (.ref a :: vs) (upd H1 a (exo a C none)) (fun v H2 => v = .non ∧ ∃ (d : Addr) (fs : List (Str × V)), H2 a = some (exo a C (some d)) ∧ H2 d = some (exd d fs) ∧ H1 d = none ∧ Q (.ref C) (some d) (upd (del H2 a) d (.xd fs))) (fun _ _ _ => False)) :
    wpAny (model X.prog X.w) X.A (call (.ref C) us) (L2N.MkP X pins σ Q) X.xe st := by
  obtain ⟨nm, qn, N, bs, bm, sn, sub, ab, col, dd, k0, k1, k2, k3, k5, hC, hbm⟩ := T.cls
  obtain ⟨hp, g, dr, tk, os⟩ := st
  have above : hp.objs.size ≤ hp.objs.size + 1 := Nat.le_succ _
  have go := hyp (hp.objs.size + 1) (I1.hok.fresh above)
  have stay : ∀ b o, hp.get? b = some o → ((hp.push (PySem.W.kdv_tup us)).push (PySem.HandSPX.excO C hp.objs.size)).get? b = some o := fun b o z => Heap.get?_push_of_some _ (Heap.get?_push_of_some _ z)
  have here : ((hp.push (PySem.W.kdv_tup us)).push (PySem.HandSPX.excO C hp.objs.size)).get? (hp.objs.size + 1) = some (PySem.HandSPX.excO C hp.objs.size) := by heap_get
  have I2 : Inv X pins σ (upd H1 (hp.objs.size + 1) (exo (hp.objs.size + 1) C none)) ⟨(hp.push (PySem.W.kdv_tup us)).push (PySem.HandSPX.excO C hp.objs.size), g, dr, tk, os⟩ := I1.laid (t' := tk) (a := hp.objs.size + 1) (o := exo (hp.objs.size + 1) C none) stay above (exo_ok here)
  have rel2 : Vals (V.ref (hp.objs.size + 1) :: vs) (Value.ref (hp.objs.size + 1) :: us) := .cons rfl rel
  have count : (Value.ref (hp.objs.size + 1) :: us ++ []).length = ps.length := by
    have z := rel2.length
    rw [F1.len _ _ _ _ go] at z
    rw [List.append_nil]
    exact z.symm
  have few2 : us.length ≤ sizeLine := by
    have z := rel.length
    rw [sizeLine_eq]
    omega
  have bound := hb _ (Value.ref (hp.objs.size + 1) :: us) I2.kIn count
  rw [List.append_nil] at bound
  refine wpAny_call (PySem.HandSPX.call_own F.excBase_ValueError (fun Y => PySem.HandSPX.refsVE_contains Y bm hbm) (I1.kIn _ _ hC) (PySem.W.looks_findIn I1.kIn iC) (fun self => PySem.W.bind_fn I1.kIn self tI) few2 (codeAny_mono
    (F1.run _ X.stack _ _ ⟨Value.ref (hp.objs.size + 1) :: us, []⟩ (Value.ref (hp.objs.size + 1) :: us) _ _ (fun _ _ _ => False) (room.make C us []) (I2.env0.make C us []) bound rel2 go) fun res st' got => ?_))
  cases res with
  | error er => exact hx pins σ _ _ er st' I2 got
  | ok flow =>
    cases flow with
    | ret u =>
      obtain ⟨v, H2, eos, bare, un, ok2, rv, ev, d, fs, ea, ed, nd, q2⟩ := got
      subst ev
      obtain ⟨h2, g2, d2, t2, os2⟩ := st'
      exact ⟨rv, made_end (raises_own T.exC T.tyC) I1 above stay un ok2 eos bare ea ed nd q2⟩
    | next => exact got.elim
    | brk => exact got.elim
    | cont => exact got.elim
theorem pmk_a (T : OexC X.K C) (iC : PySem.W.findIn X.K (.ref C) "__init__" = some (some (.ref fI))) (tI : PySem.W.typeIn X.K (.ref fI) = some (.type "function"))
    (F1 : FnOk X.prog X.w X.K X.mg X.base CX k fI fd ps sp) (room : Room (k + 1) X.A) (hb : Binds X.K fd ps []) (hx : Passes CX X (fun _ _ _ => False)) (hg : Gl X x) (hm : X.mg x = some (.ref C)) (ha : PA X (e :: es) t)
    (hdb : (x == ("__debug__" : Str)) = false := by decide) (he : starEach (e :: es) X.env = (false, eval e X.env) :: starEach es X.env := by rfl) (hpl : (backTo pos (starEach es X.env)).any (·.1) = false := by rfl) :
    L2N.PMk X (.Call (.Name x p) (e :: es) [] pos) (tMkO C sp [] t) := by
  intro pins st σ H Q I hyp
  refine wpAny_Call_Name_kw (ld_glob I hg hm ?_ hdb)
  refine PySem.W.callWith_K (h₀ := X.base) I.ok.mod.kin T.kC (thn (ha.run pos pins st σ H _ I hyp) fun us s1 ⟨vs, H1, I1, rel, few, rest⟩ => ⟨I1.kIn, ?_⟩) he hpl
  exact made_call T iC tI F1 room hb hx I1 rel few fun a na => by
    have z := rest a na
    rw [List.append_nil] at z
    exact z
theorem pmk_0 (T : OexC X.K C) (iC : PySem.W.findIn X.K (.ref C) "__init__" = some (some (.ref fI))) (tI : PySem.W.typeIn X.K (.ref fI) = some (.type "function"))
    (F1 : FnOk X.prog X.w X.K X.mg X.base CX k fI fd ps sp) (room : Room (k + 1) X.A) (hb : Binds X.K fd ps []) (hx : Passes CX X (fun _ _ _ => False)) (hg : Gl X x) (hm : X.mg x = some (.ref C))
    (hdb : (x == ("__debug__" : Str)) = false := by decide) : L2N.PMk X (.Call (.Name x p) [] [] pos) (tMkO C sp [] tNil) := by
  intro pins st σ H Q I hyp
  obtain ⟨few, rest⟩ := hyp
  refine wpAny_Call_Name_kw (ld_glob I hg hm ?_ hdb)
  exact PySem.W.callWith_K0 I.kIn T.kC (made_call T iC tI F1 room hb hx I .nil few fun a na => rest a na)
end
end KW

set_option Elab.async false
set_option maxRecDepth 100000
set_option maxHeartbeats 2000000
/-! Rules that speak of no row: a lambda that is handed to a def; what it lets out has None as context. -/
namespace KW
open PySem PySem.Spec PyProof.Rows L2 LamX
theorem inv_xe {X : Cx} {xe : Value → Shared → Prop} {pins : List (Addr × Obj)} {σ : L2.St} {H : Hp} {s : Shared} (I : Inv X pins σ H s) : Inv { X with xe := xe } pins σ H s := by
  obtain ⟨⟨a1, a2, a3, a4, a5, a6, a7, a8, a9, a10, a11, a12, a13, a14, a15, a16, a17, a18⟩, b2, b3, b4, b5, b6, b7, b8, b9, b10, b11⟩ := I
  exact ⟨⟨a1, a2, a3, a4, a5, a6, a7, a8, a9, a10, a11, a12, a13, a14, a15, a16, a17, a18⟩, b2, b3, b4, b5, b6, b7, b8, b9, b10, b11⟩
/-- the lambda's body -/
def lamN (X : Cx) (A : Around) (outer : List Env) (s : Shared) (H : Hp) (E : XK) (scope : Scope) (f c' : Addr) : Cx :=
  { lamCx X A outer s H E scope f c' with xe := fun er s' => wpAny (model X.prog X.w) (A.deeper (lamEnv X scope s.heap.objs.size f c')) (leaving (lamEnv X scope s.heap.objs.size f c') er) (fun _ s'' => CN X.prog X.w outer H s E er s'') (fun er' s'' => CN X.prog X.w outer H s E er' s'') s' }
theorem lamN_takes {X : Cx} {A : Around} {outer : List Env} {s : Shared} {H : Hp} {E : XK} {scope : Scope} {f c' : Addr} : L2N.Takes (lamN X A outer s H E scope f c') (fun cls d _ H' => E cls d H') := L2N.takes_of rfl rfl rfl rfl
theorem lamN_pass {X : Cx} {A : Around} {outer : List Env} {s : Shared} {H : Hp} {E : XK} {scope : Scope} {f c' : Addr} : Passes (CN X.prog X.w) (lamN X A outer s H E scope f c') E := L2N.passes_call lamN_takes fun _ _ _ _ z => z
/-- the body of the def that was handed the lambda -/
abbrev gotCx (X : Cx) (Ng : List Str) (qg : Str) (sg : Scope) (g : Addr) (cdg : Value) (s : Shared) (H : Hp) : Cx := cxOf C8.CX0 X.prog X.w X.K X.mg X.base Ng qg sg g cdg X.A X.stack s H C8.E0
section
variable {X : Cx} {pins : List (Addr × Obj)} {σ : L2.St} {H : Hp} {s : Shared}
theorem pe_ask {Ng : List Str} {qg : Str} {sg : Scope} {g f c' : Addr} {cdg pm ctv : Value} {params : Arguments} {body : Expr} {scope : Scope} {k i : Nat} {a : Str} {pn : List (Addr × Obj)} {xe : Value → Shared → Prop} {W : WX} {E : XK} {tb : TE} {p1 p2 : Pos}
    (I : Inv X pins σ H s) (L : LamS X.env.scope scope) (there : s.heap.get? f = some (PySem.W.kla_obj "<lambda>" (X.env.qual ++ "<lambda>") params body scope (cloFrom X.env.cells scope.names []) pm c' ctv)) (unf : H f = none) (nofr : f ∉ frs X.stack)
    (none_in : bindArgs (PySem.W.kla_fn "<lambda>" (X.env.qual ++ "<lambda>") params body scope (cloFrom X.env.cells scope.names []) pm (.ref c') ctv) ⟨[], []⟩ = pure [])
    (tk : L2N.Takes ((gotCx X Ng qg sg g cdg s H).tr pn xe) W) (out : ∀ cls d σ' H', E cls d H' → W cls d σ' H') (room : Room (k + 1) (X.A.deeper (envOfC qg sg s.heap.objs.size g cdg)))
    (inside : ∀ (A : Around) (outer : List Env) (s : Shared) (H : Hp), Room k (A.deeper (lamEnv X scope s.heap.objs.size f c')) → PE (lamN X A outer s H E scope f c') body tb)
    (name : Ng[i]? = some a) (vis : Vis sg a) (nd : (a == ("__debug__" : Str)) = false := by decide) (nc : (a == ("__classdict__" : Str)) = false := by decide) :
    PE ((gotCx X Ng qg sg g cdg s H).tr pn xe) (.Call (.Name a p1) [] [] p2) (fun σZ HZ Q => σZ[i]? = some (some (.ref f)) ∧ HZ c' = some (CodeO c' (X.env.qual ++ "<lambda>")) ∧ tb σ HZ Q) := by
  refine ⟨fun pinsZ sZ σZ HZ Q IZ hyp => ?_⟩
  obtain ⟨slot, code, rest⟩ := hyp
  refine wpAny_Call_Name_kw (thn ((pe_var (pos := p1) (i := i) name vis nd nc).run pinsZ sZ σZ HZ (fun v H1 => v = .ref f ∧ H1 = HZ) IZ ⟨.ref f, slot, rfl, rfl⟩) fun u s1 ⟨v, H1, I1, r1, ev, eH⟩ => ?_)
  subst ev
  rw [eH] at I1
  obtain rfl : u = Value.ref f := r1
  have now : s1.heap.get? f = some (PySem.W.kla_obj "<lambda>" (X.env.qual ++ "<lambda>") params body scope (cloFrom X.env.cells scope.names []) pm c' ctv) := I1.base.keep f _ there unf nofr (fun z => nomatch (show f ∈ ([] : List Addr) from z))
  refine PySem.W.callWith_F0 ⟨_, _, _, _, now⟩ ?_
  have un : Un (frs X.stack) [] H HZ s.heap s1.heap := I1.base
  obtain ⟨⟨oc, vs, tt, hoc, hdc, hvc⟩, _, _⟩ := I1.hok c' _ code
  have runs : codeAny (model X.prog X.w) (X.A.deeper (envOfC qg sg s.heap.objs.size g cdg)) (.call (.ref f) ⟨[], []⟩) (CR (CN X.prog X.w) (envOfC qg sg s.heap.objs.size g cdg :: X.stack) X.prog X.w HZ s1 Q E) s1 := by
    refine PySem.W.kla_callFunE room.depth now rfl L.co L.gen rfl ⟨c', oc, vs, tt, rfl, hoc, hdc, hvc⟩ ?_
    rw [none_in]
    refine wpAny_pure (wpAny_newFunctionEnv (fun y hy => (L.own y hy).2) (fun y hy => absurd hy (by simp)) (fun h₁ hns hsb => ⟨I1.nolimit.fresh _ hsb, ?_⟩) L.kind)
    show codeAny _ _ (.expr body (lamEnv X scope s1.heap.objs.size f c')) _ _
    have kept : ∀ b o, s1.heap.get? b = some o → h₁.get? b = some o := fun b o z => hsb.extBut b o (Nat.ne_of_lt (Heap.lt_size z)) (Heap.get?_push_of_some _ z)
    have J : Inv (lamN X (X.A.deeper (envOfC qg sg s.heap.objs.size g cdg)) (envOfC qg sg s.heap.objs.size g cdg :: X.stack) s1 HZ E scope f c') [] σ HZ { s1 with heap := h₁, toks := s1.toks + ([] : List (Str × Value)).length } :=
      inv_xe (lam_start2 (E := E) I L I1.env0 room.hd un hns kept)
    refine PySem.W.kla_codeExpr (wpAny_mono ((inside _ _ s1 HZ (room.deeper _)).run [] _ _ HZ Q J rest) (fun v s' got => ?_) fun er s' got => got)
    obtain ⟨v', H', J', rv, q⟩ := got
    exact ⟨v', H', J'.os, J'.bare, J'.base, J'.hok, rv, q⟩
  have hx : Passes (CN X.prog X.w) ((gotCx X Ng qg sg g cdg s H).tr pn xe) E := L2N.passes_call tk out
  refine wpAny_call (codeAny_mono runs fun res s' got => ?_)
  cases res with
  | error er => exact hx pinsZ σZ HZ s1 er s' I1 got
  | ok flow =>
    cases flow with
    | ret u => exact I1.after got
    | next => exact got.elim
    | brk => exact got.elim
    | cont => exact got.elim
end
/-- the def that calls what it was handed: TT, what it makes of the lambda's reading -/
def GivesN (X : Cx) (Ng : List Str) (x : Str) (sg : Scope) (g : Addr) (cdg : Value) (bg : List Stmt) (a : Str) (q : Str) (TT : (XK → Hp → VK → Prop) → Hp → VK → Prop) : Prop :=
  ∀ (f c' : Addr) (s : Shared) (H : Hp) (Q : VK) (tl : XK → Hp → VK → Prop), Room 4 (X.A.deeper (envOfC x sg s.heap.objs.size g cdg)) →
    (∀ (W : WX) (pn : List (Addr × Obj)) (xe : Value → Shared → Prop) (E : XK) (p1 p2 : Pos), L2N.Takes ((gotCx X Ng x sg g cdg s H).tr pn xe) W → (∀ cls d σ' H', E cls d H' → W cls d σ' H') →
      PE ((gotCx X Ng x sg g cdg s H).tr pn xe) (.Call (.Name a p1) [] [] p2) (fun σZ HZ Q => σZ[0]? = some (some (.ref f)) ∧ HZ c' = some (CodeO c' q) ∧ tl E HZ Q)) →
    H c' = some (CodeO c' q) → TT tl H Q → ∃ t, PSs (gotCx X Ng x sg g cdg s H).nox bg t ∧ t { nx := fun _ H' => Q .non H', rt := Q } (L2.start Ng [.ref f]) H
section
variable {X : Cx}
/-- x(lambda: body) -/
theorem pe_lamN {T : List (Addr × Str)} {TT : (XK → Hp → VK → Prop) → Hp → VK → Prop} {x a : Str} {g c P : Addr} {k : Nat} {pg : Arguments} {bg : List Stmt} {sg : Scope} {dV kV doc pm cdv ct oc : Value} {an od : Option Addr} {osl : Array (Option Value)} {Ng : List Str}
    {params : Arguments} {body : Expr} {scope : Scope} {t : XK → TE} {p lpos pos : Pos} (hg : Gl X x) (hm : X.mg x = some (.ref g)) (hk : PySem.W.keepIn X.K (.ref g) = true)
    (look : X.K.lookup g = some ⟨oc, od, .func (PySem.W.fnOf x x pg bg sg dV kV doc pm an cdv ct), osl⟩) (code : PySem.W.codeIn X.K cdv x = true) (hb : L2.Binds X.K (PySem.W.fnOf x x pg bg sg dV kV doc pm an cdv ct) [a] []) (Sg : FnScope Ng [a] sg) (hNg : Ng[0]? = some a) (vis : Vis sg a)
    (gives : GivesN X Ng x sg g cdv bg a (X.env.qual ++ "<lambda>") TT)
    (TB : TabB X.base X.mg c P) (hcode : X.env.code = .ref c) (inT : (P, X.env.qual ++ "<lambda>") ∈ T) (one : ∀ p ∈ T, p.1 = P → p.2 = X.env.qual ++ "<lambda>") (hk4 : 4 ≤ k + 1) (room : Room (k + 2) X.A) (L : LamS X.env.scope scope) (hdef : defaultsOf params X.env = ([], []))
    (none_in : ∀ (q : Str) (cl : List (Str × Addr)) (pm cv ctv : Value), bindArgs (PySem.W.kla_fn "<lambda>" q params body scope cl pm cv ctv) ⟨[], []⟩ = pure [])
    (inside : ∀ (A : Around) (outer : List Env) (s : Shared) (H : Hp) (E : XK) (f c' : Addr), Room k (A.deeper (lamEnv X scope s.heap.objs.size f c')) → PE (lamN X A outer s H E scope f c') body (t E))
    (hdb : (x == ("__debug__" : Str)) = false := by decide) (nd : (a == ("__debug__" : Str)) = false := by decide) (nc : (a == ("__classdict__" : Str)) = false := by decide) :
    PE X (.Call (.Name x p) [.Lambda params body scope lpos] [] pos) (tLam T TT t) := by
  refine ⟨fun pins st σ H Q I hyp => ?_⟩
  obtain ⟨tabs, hyp⟩ := hyp
  refine wpAny_Call_Name_kw (ld_glob I hg hm ?_ hdb)
  refine PySem.W.callWith_K (h₀ := X.base) I.ok.mod.kin hk ?_ (by rfl) (by rfl)
  show wpAny _ _ (spliced ((false, eval (.Lambda params body scope lpos) X.env) :: backTo pos (starEach [] X.env))) _ _ st
  refine Calls.spliced_cons (lam_make2 I TB hcode inT one tabs hdef (L.has I.ok) fun f c' pm' ctv H1 s' I1 grown T1 there unf nofr coded => ?_)
  refine Calls.spliced_nil ⟨I1.kIn, ?_⟩
  have runs : codeAny (model X.prog X.w) X.A (.call (.ref g) ⟨[.ref f], []⟩) (CR C8.CX0 X.stack X.prog X.w H1 s' Q C8.E0) s' := by
    refine run_ofS (N := Ng) (ps := [a]) (us := [.ref f]) (vs := [.ref f]) look code Sg room I1.env0 (hb s' [.ref f] I1.kIn rfl) (.cons rfl .nil) rfl fun room' => ?_
    obtain ⟨t', ht', hq'⟩ := gives f c' s' H1 Q (fun E H' Q' => t E σ H' Q') (room'.mono hk4) (fun W pn xe E p1 p2 tk out => pe_ask (i := 0) I1 L there unf nofr (none_in _ _ _ _ _) tk out room' (fun A outer s H r2 => inside A outer s H E f c' r2) hNg vis nd nc) coded (hyp H1 grown T1)
    exact ⟨t', ht'.nox, hq'⟩
  refine wpAny_call (codeAny_mono runs fun res s2 got => ?_)
  cases res with
  | error er => exact (show False from got).elim
  | ok flow =>
    cases flow with
    | ret u => exact I1.after got
    | next => exact got.elim
    | brk => exact got.elim
    | cont => exact got.elim
end
end KW

set_option Elab.async false
set_option maxRecDepth 100000
set_option maxHeartbeats 2000000
/-! Rules that speak of no row: try with several clauses, each of one class or of a tuple of classes, each with a name. -/
namespace KW
open PySem PySem.Spec PyProof.Rows L2
/-- what a clause asks for -/
inductive Asks (X : Cx) : Expr → List Value → Prop
  | one {x : Str} {c : Value} {p : Pos} (h : Names X x c) : Asks X (.Name x p) [c]
  | two {x y : Str} {c d : Value} {p1 p2 p : Pos} {k : Nat} (h1 : Names X x c) (h2 : Names X y d) : Asks X (.Tuple [.Name x p1, .Name y p2] k p) [c, d]
  | three {x y z : Str} {c d e : Value} {p1 p2 p3 p : Pos} {k : Nat} (h1 : Names X x c) (h2 : Names X y d) (h3 : Names X z e) : Asks X (.Tuple [.Name x p1, .Name y p2, .Name z p3] k p) [c, d, e]
theorem flying_on {B : Heap} {l : List Env} {a : Addr} {Z : Obj → Prop} {h h' : Heap} (f : HandSPX.FlyingZ B l a Z h) (k : ∀ b o, h.get? b = some o → h'.get? b = some o) : HandSPX.FlyingZ B l a Z h' := by
  obtain ⟨f1, f2, f3, oe, vs, T, oT, ts, g1, g2, g3, g4, g5, g6, g7, g8⟩ := f
  exact ⟨fun b o z => k b o (f1 b o z), f2, f3.of_keeps fun b o z _ => ⟨o, k b o z, rfl⟩, oe, vs, T, oT, ts, k _ _ g1, g2, g3, g4, g5, g6, k _ _ g7, g8⟩
section
variable {X : Cx}
theorem name_read {x : Str} {c : Value} {p : Pos} {a : Addr} {pn pins : List (Addr × Obj)} {σ : L2.St} {H : Hp} {s : Shared} {Q E : Value → Shared → Prop} (h : Names X x c) (S : Inv (X.suite a pn) pins σ H s) (q : Q c s) :
    wpAny (model X.prog X.w) (X.A.mark (some (.ref a))) (eval (.Name x p) X.env) Q E s := by
  obtain ⟨g, nd, m | ⟨m, v, nn⟩⟩ := h
  · exact ld_glob (X := X.suite a pn) S g m q nd
  · exact ld_blt (X := X.suite a pn) S g m v q nn nd
theorem asks_ok {te : Expr} {cs : List Value} (T : Asks X te cs) {a : Addr} {cls : Value} {b : Bool} {pn pins : List (Addr × Obj)} {σ : L2.St} {H : Hp} {s : Shared} {Q : Bool → Shared → Prop} {E : Value → Shared → Prop} (S : Inv (X.suite a pn) pins σ H s)
    (LT : PySem.W.Looks (model X.prog X.w) s.heap (typeOf (.ref a)) cls) (m : PySem.W.exmAny X.K cls cs = some b) (q : ∀ h', (∀ c o, s.heap.get? c = some o → h'.get? c = some o) → Q b { s with heap := h' }) :
    wpAny (model X.prog X.w) (X.A.mark (some (.ref a))) (eval te X.env) (fun c s1 => wpAny (model X.prog X.w) (X.A.mark (some (.ref a))) (excMatches (.ref a) c) Q E s1) E s := by
  cases T with
  | one h =>
    obtain ⟨b1, d1, x1, y1, z1⟩ := PySem.W.exmAny_cons m
    have e1 : d1 = false := by cases y1; rfl
    have e2 : b1 = b := by rw [z1, e1, Bool.or_false]
    rw [e2] at x1
    exact name_read h S ((PySem.W.exm_one (M := model X.prog X.w) S.kIn LT x1).here (q s.heap fun _ _ z => z))
  | @two x y c d p1 p2 p k h1 h2 =>
    refine wpAny_Tuple_spliced ?_
    show wpAny _ _ (spliced [(false, eval (.Name x p1) X.env), (false, eval (.Name y p2) X.env)]) _ _ _
    refine Calls.spliced_cons (name_read h1 S (Calls.spliced_cons (name_read h2 S (Calls.spliced_nil ⟨by show 2 ≤ sizeLine; decide, ?_⟩))))
    have up : ∀ (o : Obj) c o', s.heap.get? c = some o' → (s.heap.push o).get? c = some o' := fun o c o' z => Heap.get?_push_of_some _ z
    exact (PySem.W.exm_tup2 (M := model X.prog X.w) (S.kIn.keeps (up _)) (LT.keeps (up _)) (Heap.get?_push_size s.heap rfl) m).here (q _ (up _))
  | @three x y z c d e p1 p2 p3 p k h1 h2 h3 =>
    refine wpAny_Tuple_spliced ?_
    show wpAny _ _ (spliced [(false, eval (.Name x p1) X.env), (false, eval (.Name y p2) X.env), (false, eval (.Name z p3) X.env)]) _ _ _
    refine Calls.spliced_cons (name_read h1 S (Calls.spliced_cons (name_read h2 S (Calls.spliced_cons (name_read h3 S (Calls.spliced_nil ⟨by show 3 ≤ sizeLine; decide, ?_⟩))))))
    have up : ∀ (o : Obj) c o', s.heap.get? c = some o' → (s.heap.push o).get? c = some o' := fun o c o' z => Heap.get?_push_of_some _ z
    exact (PySem.W.exm_tup3 (M := model X.prog X.w) (S.kIn.keeps (up _)) (LT.keeps (up _)) (Heap.get?_push_size s.heap rfl) m).here (q _ (up _))
end
/-- the clauses' wish of an exception: i, the slot of the name -/
def wSome (K : PySem.W.Frag) (i : Nat) (D : Ends) : List (List Value × (Addr → Value → Option Addr → TS)) → WX
  | [] => fun _ _ _ _ => False
  | (cs, ts) :: r => fun cls d σ H => ∃ b, PySem.W.exmAny K cls cs = some b ∧
      (b = true → ∀ a, H a = none → ts a cls d { nx := fun σ' H' => D.nx (σ'.set i none) H', rt := D.rt, bk := fun σ' H' => D.bk (σ'.set i none) H', ct := fun σ' H' => D.ct (σ'.set i none) H' } (σ.set i (some (.ref a))) H) ∧ (b = false → wSome K i D r cls d σ H)
inductive Clauses (X : Cx) (n : Str) : List ExceptHandler → List (List Value × (Addr → Value → Option Addr → TS)) → Prop
  | nil : Clauses X n [] []
  | cons {te : Expr} {cs : List Value} {ts : Addr → Value → Option Addr → TS} {b₀ : Stmt} {suite : List Stmt} {pos : Pos} {hds : List ExceptHandler} {l : List (List Value × (Addr → Value → Option Addr → TS))} (test : Asks X te cs)
      (does : ∀ (a : Addr) (oe : Obj) (cls : Value) (d : Option Addr) (pn : List (Addr × Obj)), L2N.Zn cls d oe → (∃ vs, oe.data = .fields vs) → PSs (X.suite a ((a, oe) :: pn)) (b₀ :: suite) (ts a cls d)) (r : Clauses X n hds l) :
      Clauses X n (.ExceptHandler (some te) (some n) (b₀ :: suite) pos :: hds) ((cs, ts) :: l)
theorem try_some {X : Cx} {n : Str} {i : Nat} {body : List Stmt} {h₀ : ExceptHandler} {hds : List ExceptHandler} {l : List (List Value × (Addr → Value → Option Addr → TS))} {pos : Pos} {tb : WX → TS} (hs : X.stack = X.env :: X.outer) (hf : X.env.frame = some X.env.locals) (hN : X.N.Nodup)
    (hi : X.N[i]? = some n) (hln : X.env.kindOf n = some .local)
    (hb : ∀ (W : WX) (pn : List (Addr × Obj)) (xe : Value → Shared → Prop), L2N.Takes (X.tr pn xe) W → PassesOwn (model X.prog X.w) X.A X.env xe → PSs (X.tr pn xe) body (tb W))
    (hh : Clauses X n (h₀ :: hds) l) : PS X (.Try body (h₀ :: hds) [] [] pos) (fun D σ H => tb (wSome X.K i D l) D σ H) := by
  refine ⟨fun pins st σ H D I hyp => ?_⟩
  have ok := I.ok
  have frames : X.A.frames = some (X.env :: X.outer) := by rw [ok.frames, hs]
  have own : Loc X.env.scope n := .inl hln
  refine wpAny_Try_except ?_
  refine wpAny_mono ((hb (wSome X.K i D l) (X.pn ++ pins) (fun er s1 => wpAny (model X.prog X.w) X.A (noteFrame er X.env) (fun _ s2 => wpAny (model X.prog X.w) X.A (setFlight er none) (fun _ s3 =>
    wpAny (model X.prog X.w) X.A (handleBy er X.env (h₀ :: hds)) (SP X pins D) X.xe s3) X.xe s2) X.xe s1) (fun u s' air => ?_) PassesOwn.looking).run [] st σ H D (I.toTry _) hyp) (fun flow s1 got => ?_) (fun er s1 got => got)
  · obtain ⟨a, B, sI, pins', σ', H', cls, d, rfl, J', nb, up, sky, na, eos, ag, wish⟩ := air
    have J : Inv X pins σ' H' sI := J'.ofTry ok
    have sky' : Sky B (X.env :: X.outer) a (L2N.Zn cls d) X.env.locals s'.heap := by rw [← hs]; exact sky
    show wpAny (model X.prog X.w) X.A (noteFrame (.ref a) X.env) _ _ _
    refine L2N.Sky.land L2N.Zn.steady frames hf sky' fun h3 fl3 up3 => ?_
    have suites : ∀ {h : Heap}, HandSPX.FlyingZ B (X.env :: X.outer) a (L2N.Zn cls d) h → s'.heap.UpToSlots h → ∃ (oe : Obj) (vs : Array Value), h.get? a = some oe ∧ L2N.Zn cls d oe ∧ oe.data = .fields vs ∧ Inv (X.suite a ((a, oe) :: (X.pn ++ pins))) [] σ' H' { s' with heap := h } := fun {h} fl u => by
      obtain ⟨oe, vs, there, hz, hd⟩ := fl.there
      have JJ : Inv X pins σ' H' { s' with heap := h } := J.landed nb fl.1 (up.trans u) eos ag
      have nfr : a ∉ frs (X.env :: X.outer) := fun hm => by
        obtain ⟨_, o', e', hnf⟩ := fl.2.2.1.mem hm
        rw [there] at e'; cases e'
        exact hnf _ hd
      have nL : a ≠ X.env.locals := fun z => nfr (List.mem_filterMap.mpr ⟨X.env, List.mem_cons_self, by rw [hf, z]⟩)
      have nF : a ∉ X.fs := fun hm => by
        obtain ⟨en, hen, q⟩ := List.mem_filterMap.mp hm
        exact nfr (List.mem_filterMap.mpr ⟨en, List.mem_cons_of_mem _ hen, q⟩)
      exact ⟨oe, vs, there, hz, hd, JJ.suite there hd na nL nF⟩
    have go : ∀ {hs' : List ExceptHandler} {l' : List (List Value × (Addr → Value → Option Addr → TS))}, Clauses X n hs' l' → ∀ (h : Heap), HandSPX.FlyingZ B (X.env :: X.outer) a (L2N.Zn cls d) h → s'.heap.UpToSlots h → wSome X.K i D l' cls d σ' H' →
        wpAny (model X.prog X.w) X.A (handleBy (.ref a) X.env hs') (SP X pins D) X.xe { s' with heap := h } := by
      intro hs' l' hk
      induction hk with
      | nil => intro h _ _ z; exact z.elim
      | @cons te cs ts b₀ suite pos' hs2 l2 test does r ih =>
        intro h fl u wish
        obtain ⟨b, m, yes, no⟩ := wish
        obtain ⟨oe, vs, there, hz, hd, S⟩ := suites fl u
        refine wpAny_handleBy_cons (codeAny_handlers_test ?_) (by intro q; cases q)
        have LT : PySem.W.Looks (model X.prog X.w) h (typeOf (.ref a)) cls := fun A Q E s k q => wpAny_typeOf_ref (k _ _ there) (by rw [hz.1]; exact q)
        refine asks_ok test S LT m fun h2 k2 => ?_
        have fl2 := flying_on fl k2
        have u2 : s'.heap.UpToSlots h2 := u.trans (Heap.UpToSlots.of_keeps k2)
        cases b with
        | true =>
          refine codeAny_handlers_suite_as ?_
          refine HandSPX.lands_againZ fl2 fun h4 fl4 up4 => ?_
          obtain ⟨oe4, vs4, there4, hz4, hd4, S4⟩ := suites fl4 (u2.trans up4)
          refine store_ok (X := X.suite a ((a, oe4) :: (X.pn ++ pins))) (v := .ref a) S4 hN hi own rfl (fun s5 S5 => ?_) (.inr hln)
          refine wpAny_mono ((does a oe4 cls d (X.pn ++ pins) hz4 ⟨_, hd4⟩).run [] s5 _ H' _ S5 (yes rfl a na)) (fun flow s6 got => ?_) (fun _ _ z => False.elim z)
          have behind : ∀ {σ6 : L2.St} {H6 : Hp} {Q : Shared → Prop}, Inv (X.suite a ((a, oe4) :: (X.pn ++ pins))) [] σ6 H6 s6 → (∀ s7, Inv X pins (σ6.set i none) H6 s7 → Q s7) →
              wpAny (model X.prog X.w) X.A (do bindName X.env n .none; unbindBehindTheSuite X.env n pos') (fun _ s7 => Q s7) X.xe s6 := fun {σ6 H6 Q} S6 hq => gone_ok (S6.unsuite ok) hN hi hln hq
          cases flow with
          | next =>
            obtain ⟨σ6, H6, S6, q6⟩ := got
            exact behind S6 fun s7 J7 => ⟨_, _, J7, q6⟩
          | brk =>
            obtain ⟨σ6, H6, S6, q6⟩ := got
            exact behind S6 fun s7 J7 => ⟨_, _, J7, q6⟩
          | cont =>
            obtain ⟨σ6, H6, S6, q6⟩ := got
            exact behind S6 fun s7 J7 => ⟨_, _, J7, q6⟩
          | ret u =>
            obtain ⟨v6, σ6, H6, S6, r6, q6⟩ := got
            exact behind S6 fun s7 J7 => ⟨_, _, _, J7, r6, q6⟩
        | false => exact ih h2 fl2 u2 (no rfl)
    exact go hh h3 fl3 up3 wish
  · cases flow with
    | next =>
      obtain ⟨σ', H', J', q⟩ := got
      exact wpAny_execs_nil ⟨σ', H', J'.ofTry ok, q⟩
    | brk =>
      obtain ⟨σ', H', J', q⟩ := got
      exact ⟨σ', H', J'.ofTry ok, q⟩
    | cont =>
      obtain ⟨σ', H', J', q⟩ := got
      exact ⟨σ', H', J'.ofTry ok, q⟩
    | ret u =>
      obtain ⟨v, σ', H', J', r, q⟩ := got
      exact ⟨v, σ', H', J'.ofTry ok, r, q⟩
end KW

set_option Elab.async false
set_option maxRecDepth 100000
set_option maxHeartbeats 2000000
/-! Rules that speak of no row: a def that is handed the exception that is handled. -/
namespace KW
open PySem PySem.Spec PyProof.Rows L2 L2H
/-- a def called in a clause's suite; its promise may speak of the handled exception -/
structure FnP (P : Program) (w : World) (K : PySem.W.Frag) (mg : Str → Option Value) (base : Heap) (CX : CXT) (k : Nat) (f : Addr) (fd : FuncData) (ps : List Str) (sp : Addr × Obj → Sp) : Prop where
  len : ∀ p vs H Q E, sp p vs H Q E → vs.length = ps.length
  run : ∀ (A : Around) (outer : List Env) (s : Shared) (H : Hp) (args : Args) (us : List Value) (vs : List V) (Q : VK) (E : XK) (p : Addr × Obj), RoomH k A → Hot1 A p → PinOk outer H s p → Env0 P w K mg base A outer s H → BindsTo s fd args (ps.zip us) → Vals vs us → sp p vs H Q E →
    codeAny (model P w) A (.call (.ref f) args) (CR CX outer P w H s Q E) s
theorem okP {CX : CXT} {P : Program} {w : World} {K : PySem.W.Frag} {mg : Str → Option Value} {base : Heap} {k : Nat} {x qual : Str} {st : Stmt} {f : Addr} {fd : FuncData} {N ps : List Str} {sp : Addr × Obj → Sp} (F : Fun K x qual st f fd) (S : FnScope N ps (defScope st))
    (len : ∀ p vs H Q E, sp p vs H Q E → vs.length = ps.length)
    (body : ∀ (cdv : Value) (A : Around) (outer : List Env) (s : Shared) (H : Hp) (vs : List V) (Q : VK) (E : XK) (p : Addr × Obj), Hot1 A p → RoomH k (A.deeper (envOfC qual (defScope st) s.heap.objs.size f cdv)) → sp p vs H Q E →
      ∃ t, PSs (cxH CX P w K mg base N qual (defScope st) f cdv A outer s H E p) (defBody st) t ∧ t { nx := fun _ H' => Q .non H', rt := Q } (L2.start N vs) H) : FnP P w K mg base CX (k + 1) f fd ps sp := by
  obtain ⟨c0, d0, kw, dc, pm, an, cdv, ct, sl, rfl, look, code⟩ := F.ex
  refine ⟨len, fun A outer s H args us vs Q E p room hot pin e0 bound rel hyp => ?_⟩
  have count := len _ _ _ _ _ hyp
  have KX : K.In s.heap := e0.mod.kin.keeps fun b o z => (e0.bs b o z).1
  have lim : s.heap.NoLimit := e0.mod.nolimit.keeps fun b o z => (e0.bs b o z).1
  have kinds : ∀ y ∈ ps.zip us, (defScope st).names.lookup y.1 = some .local ∨ ((defScope st).names.lookup y.1 = some .cell ∧ ((cellsFrom (s.heap.objs.size + 1) (defScope st).names []).lookup y.1).isSome = true) := fun ⟨n, v⟩ hy => by
    rcases S.par n (List.of_mem_zip hy).1 with q | q
    · exact .inl q
    · exact .inr ⟨q, PySem.W.cellsFrom_some _ _ _ (.inl q)⟩
  refine codeAny_call_function room.depth (KX _ _ look) rfl S.co S.gen rfl (PySem.W.codeRec_of KX code) (bound _ _ _ _ ?_)
  refine wpAny_newFunctionEnv_cells S.kind kinds fun env eenv s1 inside => ?_
  subst eenv
  refine ⟨lim.keeps inside.toInCall.keep, codeAny_func ?_⟩
  obtain ⟨t, ht, hq⟩ := body cdv A outer s H vs Q E p hot (room.deeper _) hyp
  have I : Inv (cxH CX P w K mg base N qual (defScope st) f cdv A outer s H E p) [] (L2.start N vs) H s1 := inv_startH S pin e0 count rel inside
  refine wpAny_mono (ht.run [] s1 (L2.start N vs) H _ I hq) (fun flow s' got => ?_) fun er s' got => got
  have ends : ∀ {σ' : L2.St} {H' : Hp} {v : V} {u : Value}, Inv (cxH CX P w K mg base N qual (defScope st) f cdv A outer s H E p) [] σ' H' s' → RelV v u → Q v H' → CE outer P w H s Q u s' :=
    fun {σ' H' v u} J rv q => ⟨v, H', J.os, J.bare, J.base, J.hok, rv, q⟩
  cases flow with
  | ret u =>
    obtain ⟨v, σ', H', J, rv, q⟩ := got
    exact ends J rv q
  | next =>
    obtain ⟨σ', H', J, q⟩ := got
    exact ends (v := V.non) (u := Value.none) J rfl q
  | brk =>
    obtain ⟨_, _, _, q⟩ := got
    exact q.elim
  | cont =>
    obtain ⟨_, _, _, q⟩ := got
    exact q.elim
section
variable {X : Cx} {CX : CXT} {k : Nat} {f : Addr} {fd : FuncData} {ps : List Str} {sp : Addr × Obj → Sp} {E : XK} {x : Str} {q pos : Pos} {e o : Expr} {es : List Expr} {t : TA} {p : Addr × Obj}
/-- x(e, ..) in the suite -/
theorem pe_callP (F : FnP X.prog X.w X.K X.mg X.base CX k f fd ps sp) (room : RoomH k X.A) (hot : Hot1 X.A p) (hp : p ∈ X.pn) (hg : Gl X x) (hm : X.mg x = some (.ref f)) (hk : PySem.W.keepIn X.K (.ref f) = true) (hb : Binds X.K fd ps []) (hx : Passes CX X E)
    (ha : PA X (e :: es) t) (hdb : (x == ("__debug__" : Str)) = false := by decide) (he : starEach (e :: es) X.env = (false, eval e X.env) :: starEach es X.env := by rfl) (hpl : (backTo pos (starEach es X.env)).any (·.1) = false := by rfl) :
    PE X (.Call (.Name x q) (e :: es) [] pos) (fun σ H Q => t σ H fun vs H1 => sp p vs H1 Q E) := by
  refine ⟨fun pins st σ H Q I hyp => ?_⟩
  refine wpAny_Call_Name_kw (ld_glob I hg hm ?_ hdb)
  refine PySem.W.callWith_K (h₀ := X.base) I.ok.mod.kin hk (thn (ha.run pos pins st σ H _ I hyp) fun us s1 ⟨vs, H1, I1, rel, rest⟩ => ⟨I1.kIn, ?_⟩) he hpl
  have count : us.length = ps.length := by rw [← rel.length]; exact F.len _ _ _ _ _ rest
  have bound := hb s1 us I1.kIn (by rw [List.append_nil]; exact count)
  rw [List.append_nil] at bound
  have P1 := I1.pin p (List.mem_append_left _ hp)
  have pin : PinOk X.stack H1 s1 p := ⟨P1.1, P1.2.1, fun hmm => (List.mem_cons.mp (I1.stkSub p.1 hmm)).elim P1.2.2.1 P1.2.2.2.1, P1.2.2.2.2⟩
  refine wpAny_call (codeAny_mono (F.run X.A X.stack s1 H1 ⟨us, []⟩ us vs Q E p room hot pin I1.env0 bound rel rest) fun res s' got => ?_)
  cases res with
  | error er => exact hx pins σ H1 s1 er s' I1 got
  | ok flow =>
    cases flow with
    | ret u => exact I1.after got
    | next => exact got.elim
    | brk => exact got.elim
    | cont => exact got.elim
/-- the exception that p speaks of: of the class at D, its dict at dd -/
def ExcP (p : Addr × Obj) (D dd : Addr) : Prop := p.2.cls = .ref D ∧ p.2.dict = some dd ∧ ∃ vs, p.2.data = .fields vs
theorem ExcP.inst {p : Addr × Obj} {D dd : Addr} (z : ExcP p D dd) {pins : List (Addr × Obj)} {σ : L2.St} {H : Hp} {s : Shared} (I : Inv X pins σ H s) (hp : p ∈ X.pn) {fs : List (Str × V)} (hd : H dd = some (.xd fs)) :
    ∃ od, PySem.W.InstAt s.heap p.1 p.2 D (some od) ∧ ∀ n v, fs.lookup n = some v → ∃ u, RelV v u ∧ PySem.W.lookIn n od = some (some u) := by
  obtain ⟨z1, z2, vs, z3⟩ := z
  obtain ⟨there, _⟩ := I.pin p (List.mem_append_left _ hp)
  obtain ⟨mA, hns, hr⟩ := (show ObjOk X.prog X.w H s.heap dd (.xd fs) from I.hok dd _ hd)
  obtain ⟨od, ho, hl⟩ := lookIn_ns hns
  refine ⟨od, ⟨there, z1, by unfold PySem.W.notCls; rw [z3] <;> rfl, by rw [z2]; exact ho⟩, fun n v hv => ?_⟩
  obtain ⟨u, hu, ru⟩ := RelO.some_of (v := v) (o := mA n) (by rw [← hv]; exact hr n)
  exact ⟨u, ru, by rw [hl, hu]⟩
/-- isinstance(e, c), e that exception -/
def rIsP (K : PySem.W.Frag) (p : Addr × Obj) (D dd : Addr) : List V → Hp → VK → Prop := fun xs H Q => ∃ (c : V) (cv : Value) (b : Bool) (fs : List (Str × V)), xs = [.ref p.1, c] ∧ (∀ u, RelV c u → u = cv) ∧ PySem.W.kitOne K (.ref D) cv = some b ∧ H dd = some (.xd fs) ∧ Q (.bl b) H
theorem call_isP {D dd : Addr} (C : ExcC X.K D) (z : ExcP p D dd) (hp : p ∈ X.pn) : CallR X (.builtin "isinstance") (rIsP X.K p D dd) := by
  intro pins st σ H xs us Q I rel hyp
  obtain ⟨c, cv, b, fs, rfl, hcv, kit, hd, q⟩ := hyp
  cases rel with
  | cons rx rr =>
    cases rr with
    | cons rt rr =>
      cases rr
      cases rx
      have ec := hcv _ rt
      subst ec
      obtain ⟨od, J, _⟩ := z.inst I hp hd
      have cl : (PySem.W.clsIn X.K D).isSome = true := by
        obtain ⟨cd, hc, _⟩ := PySem.W.any_some C.hd
        rw [hc]
        rfl
      exact PySem.W.kia_one (PySem.W.kitx_exc cl C.hg C.hk C.hs C.ha C.hn C.ht C.hm) I.kIn J kit (fun z => nomatch z) fun tk => ⟨.bl b, H, I.kept (t' := tk) fun _ _ y => y, rfl, q⟩
/-- e.n, e that exception -/
theorem pe_fldP {D dd : Addr} {te : TE} {n : Str} (T : XfC X.K D) (hno : PySem.W.findIn X.K (.ref D) n = some none) (z : ExcP p D dd) (hp : p ∈ X.pn) (he : PE X e te) (hb : attributeBase e n X.env (eval e X.env) = eval e X.env := by rfl) :
    PE X (.Attribute e n pos) (fun σ H Q => te σ H fun y H1 => y = .ref p.1 ∧ ∃ (fs : List (Str × V)) (v : V), H1 dd = some (.xd fs) ∧ fs.lookup n = some v ∧ Q v H1) := by
  refine ⟨fun pins st σ H Q I hyp => ?_⟩
  refine attr_of hb (thn (he.run pins st σ H _ I hyp) fun u s1 ⟨y, H1, I1, ry, ey, fs, v, hd, hv, q⟩ => ?_)
  subst ey
  obtain rfl : u = Value.ref p.1 := ry
  obtain ⟨od, J, hl⟩ := z.inst I1 hp hd
  obtain ⟨u, ru, hu⟩ := hl n v hv
  exact HandSPX.exc_get I1.kIn J T.ga T.gg T.exC (PySem.W.findObj_own T.hdC hno rfl (by rw [hu])) (handed_of ru) ⟨v, H1, I1.tok _, ru, q⟩
end
end KW

set_option Elab.async false
set_option maxRecDepth 100000
set_option maxHeartbeats 2000000
/-! Rules that speak of no row: going over zip, and taking pairs apart, while an exception is handled. -/
namespace KW
open PySem PySem.Spec PyProof.Rows L2 HotX
section
variable {prog : Program} {w : World} {A : Around} {E : Value → Shared → Prop} {st : Shared}
theorem not_none (l : Addr) : ¬ ((Value.ref l == Value.none) = true) := Bool.false_ne_true
/-- StopIteration, raised while x1 is handled -/
theorem stop_hot {α : Type} {x1 : Addr} {Q : α → Shared → Prop} (hot : HotAt A x1 st.heap) (hE : ∀ h' e, (∀ b o, st.heap.get? b = some o → h'.get? b = some o) → (∃ o, h'.get? e = some o ∧ o.cls = .type "StopIteration") → E (.ref e) { st with heap := h' }) :
    wpAny (model prog w) A (newExc (.type "StopIteration") [] >>= fun e => (raiseNew e : Sem α)) Q E st := by
  obtain ⟨hh, o1, vs1, there, d1, c1⟩ := hot
  refine wpAny_bind ?made
  case made =>
  simp only [newExc, newTuple]
  refine wpAny_bind (wpAny_newObj_type ?args (by size_fits))
  case args =>
  refine wpAny_bind (m := firstArgMember _ _) (wpAny_of_eq (a := Value.none) (by first | rfl | (simp only [firstArgMember]; rfl)) (wpAny_newObj_type ?thrown (by size_fits)))
  refine raiseNew_hot ⟨hh, o1, vs1, Heap.get?_push_of_some _ (Heap.get?_push_of_some _ there), d1, c1⟩ (Nat.ne_of_lt (Heap.lt_size (Heap.get?_push_of_some _ there))) (Heap.get?_push_size _ rfl) rfl (by first | (simp; done) | (simp; omega)) (hE _ _ (fun b o z => ?_) ⟨_, Heap.get?_update_self _ (Heap.get?_push_size _ rfl) rfl, rfl⟩)
  rw [Heap.get?_update_other _ _ (Nat.ne_of_gt (Heap.lt_size (Heap.get?_push_of_some _ z)))]
  exact Heap.get?_push_of_some _ (Heap.get?_push_of_some _ z)
theorem HotAt.keep {x1 : Addr} {h h' : Heap} (hot : HotAt A x1 h) (k : ∀ o, h.get? x1 = some o → h'.get? x1 = some o) : HotAt A x1 h' := by
  obtain ⟨hh, o1, vs1, there, d1, c1⟩ := hot
  exact ⟨hh, o1, vs1, k _ there, d1, c1⟩
/-- the end of a list, while x1 is handled -/
theorem list_end_hot {z l x1 : Addr} {i : Nat} {items : Array Value} {Q : Value → Shared → Prop} (hot : HotAt A x1 st.heap) (hne : x1 ≠ z) (hit : st.heap.IsListIter z l i) (hl : st.heap.IsList l items) (hx : items[i]? = none)
    (hE : ∀ h' e, Heap.ExtBut z st.heap h' → (∃ o, h'.get? e = some o ∧ o.cls = .type "StopIteration") → E (.ref e) { st with heap := h' }) : wpAny (model prog w) A (Builtin.SmallTypes.nextOf (.ref z)) Q E st := by
  obtain ⟨ob, there, _, hd⟩ := id hit
  obtain ⟨ol, hol, _, nl, hdl⟩ := hl
  unfold Builtin.SmallTypes.nextOf
  refine wpAny_bind (wpAny_callSpecial?_slot (name := Str.ofString "__next__") hit.typeIs slot_listiter_next (wpAny_call_entry slot_listiter_next hit.typeIs entry_listiter_next ?_ (args_listiter_next _)))
  show wpAny _ _ (field (.ref z) 0 >>= _) _ _ st
  refine wpAny_bind (wpAny_field there hd (x := .ref l) rfl ?_)
  show wpAny _ _ (if (Value.ref l == Value.none) = true then _ else _) _ _ st
  rw [if_neg (not_none l)]
  show wpAny _ _ (field (.ref z) 1 >>= _) _ _ st
  refine wpAny_bind (wpAny_field there hd (x := .int i 0) rfl ?_)
  show wpAny _ _ (seqItems? (.ref l) >>= _) _ _ st
  refine wpAny_bind (wpAny_seqItems hol hdl ?_)
  simp only [Int.toNat_natCast, hx]
  have sb : Heap.SameBut z st.heap _ := Heap.SameBut.update (h := st.heap) (a := z) (f := Obj.mapFields (·.setIfInBounds 0 Value.none))
  refine wpAny_bind (wpAny_rule (wpAny_bind (wpAny_setField there hd (by simp) ?_)))
  refine stop_hot (st := { st with heap := _ }) (HotAt.keep hot fun o q => sb.extBut _ _ hne q) fun h' e k he => hE h' e (fun b o nb q => k b o (sb.extBut b o nb q)) he
/-- the end of a tuple, while x1 is handled -/
theorem tuple_end_hot {z t x1 : Addr} {i : Nat} {items : Array Value} {Q : Option Value → Shared → Prop} (hot : HotAt A x1 st.heap) (hne : x1 ≠ z) (hit : IsTupIter st.heap z t i) (ht : IsTup st.heap t items) (hx : items[i]? = none)
    (hQ : ∀ h', Heap.ExtBut z st.heap h' → Q none { st with heap := h' }) : wpAny (model prog w) A (pyNext (.ref z)) Q E st := by
  obtain ⟨ob, there, _, hd⟩ := id hit
  obtain ⟨ol, hol, _, nl, hdl⟩ := ht
  unfold pyNext
  refine wpAny_bind (wpAny_attempt (wpAny_callSpecial?_slot (name := Str.ofString "__next__") hit.typeIs slot_tupleiter_next (wpAny_call_entry slot_tupleiter_next hit.typeIs entry_tupleiter_next ?_ (args_tupleiter_next _))))
  show wpAny _ _ (field (.ref z) 0 >>= _) _ _ st
  refine wpAny_bind (wpAny_field there hd (x := .ref t) rfl ?_)
  show wpAny _ _ (if (Value.ref t == Value.none) = true then _ else _) _ _ st
  rw [if_neg (not_none t)]
  show wpAny _ _ (field (.ref z) 1 >>= _) _ _ st
  refine wpAny_bind (wpAny_field there hd (x := .int i 0) rfl ?_)
  show wpAny _ _ (seqItems? (.ref t) >>= _) _ _ st
  refine wpAny_bind (wpAny_seqItems hol hdl ?_)
  simp only [Int.toNat_natCast, hx]
  have sb : Heap.SameBut z st.heap _ := Heap.SameBut.update (h := st.heap) (a := z) (f := Obj.mapFields (·.setIfInBounds 0 Value.none))
  refine wpAny_bind (wpAny_rule (wpAny_bind (wpAny_setField there hd (by simp) ?_)))
  refine stop_hot (st := { st with heap := _ }) (HotAt.keep hot fun o q => sb.extBut _ _ hne q) fun h' e k he => ?_
  obtain ⟨oe, he1, he2⟩ := he
  refine wpAny_bind (wpAny_isInstance (T := "StopIteration") (b := true) ⟨oe, he1, he2⟩ isSubtype_stop (wpAny_pure (hQ _ fun b o nb q => k b o (sb.extBut b o nb q))))
/-- a tuple is taken apart, while x1 is handled -/
theorem apart_hot {t x1 : Addr} {items : Array Value} {env : Env} {elts : List Expr} {kk : Nat} {pos : Pos} {Q : Unit → Shared → Prop} (hot : HotAt A x1 st.heap) (ht : IsTup st.heap t items) (hn : (assignEach elts env).length = items.size) (hstar : (assignEach elts env).findIdx? (·.1) = none)
    (hQ : ∀ h', Heap.ExtBut st.heap.objs.size st.heap h' → wpAny (model prog w) A (assignInOrder ((assignEach elts env).map (·.2)) items.toList) Q E { st with heap := h' }) : wpAny (model prog w) A (assign (.Tuple elts kk pos) env (.ref t)) Q E st := by
  have hlt : t ≠ st.heap.objs.size := by obtain ⟨ob, there, _⟩ := ht; exact Nat.ne_of_lt (Heap.lt_size there)
  have hlx : x1 ≠ st.heap.objs.size := by obtain ⟨_, ob, _, there, _⟩ := hot; exact Nat.ne_of_lt (Heap.lt_size there)
  rw [assign_Tuple]
  refine wpAny_bind (wpAny_standAt ?_)
  unfold unpack
  rw [hn, hstar]
  refine wpAny_bind (wpAny_holding ?_)
  unfold unpackItems notIterableAtAll
  refine wpAny_bind (wpAny_bind (wpAny_specialOf ht.typeIs slot_tuple_iter.lookup (wpAny_pure ?_)))
  simp only [Bool.false_eq_true, if_false]
  refine wpAny_bind (wpAny_holding (iter_tuple ht ?_))
  refine wpAny_bind (wpAny_holding (draw_tuple hlt items.size 0 _ _ ⟨_, Heap.get?_push_size _ rfl, rfl, rfl⟩ (ht.push _) (by omega) fun h1 hit1 hs1 => ?_))
  rw [show List.take items.size (List.drop 0 items.toList) = items.toList from by rw [List.drop_zero]; exact List.take_of_length_le (by simp)]
  rw [if_neg (by simp)]
  have ht1 : IsTup h1 t items := (ht.push _).extBut hs1.extBut hlt
  have hot1 : HotAt A x1 h1 := HotAt.keep hot fun o q => hs1.extBut _ _ hlx (Heap.get?_push_of_some _ q)
  refine wpAny_bind (wpAny_holding (tuple_end_hot (st := { st with heap := h1 }) hot1 hlx hit1 ht1 (by simp) fun h2 he2 => ?_))
  simp only [Option.isSome_none, Bool.false_eq_true, if_false]
  exact wpAny_pure (hQ h2 fun b o nb q => he2 b o nb (hs1.extBut b o nb (Heap.get?_push_of_some _ q)))
end
/-- a list's items, drawn while x1 is handled -/
theorem draws_hot {prog : Program} {w : World} {A : Around} (z l x1 : Addr) (hne : l ≠ z) (hx1 : x1 ≠ z) (items : Array Value) :
    Draws prog w A z [z, l, x1] items.size (fun i v => items[i]? = some v) (fun i h => h.IsListIter z l i ∧ h.IsList l items ∧ HotAt A x1 h) where
  live := fun _ _ s0 => let ⟨o, ho, _⟩ := s0.1; ⟨o, ho⟩
  frame := fun _ _ _ s0 hk => ⟨s0.1.at fun o q => hk z (by simp) o q, s0.2.1.at fun o q => hk l (by simp) o q, HotAt.keep s0.2.2 fun o q => hk x1 (by simp) o q⟩
  item := fun i s Q E hi s0 hQ => by
    refine wpAny_nextOf_list_item s0.1 s0.2.1 (x := items[i]) (by simp [hi]) fun h' hit' hs' => ?_
    exact hQ _ h' s.toks (by simp [hi]) ⟨hit', s0.2.1.extBut hs'.extBut hne, HotAt.keep s0.2.2 fun o q => hs'.extBut _ _ hx1 q⟩ hs'
  done := fun s Q E s0 hE => list_end_hot s0.2.2 hx1 s0.1 s0.2.1 (by simp) hE
/-- zip of two lists that came to its end, while x1 is handled -/
theorem zip_end_hot {prog : Program} {w : World} {A : Around} {E : Value → Shared → Prop} {st : Shared} {z TI TO i1 i2 a b x1 : Addr} {i : Nat} {xs ys : Array Value} {u v : Value} {Q : Option Value → Shared → Prop} (D : ZipApart z TI TO i1 i2 a b) (hot : HotAt A x1 st.heap) (nx : x1 ∉ [z, TI, TO, i1, i2])
    (hz : IsZip st.heap z TI TO .none) (hTI : IsPair st.heap TI (.ref i1) (.ref i2)) (hTO : IsPair st.heap TO u v) (h1 : st.heap.IsListIter i1 a i) (h2 : st.heap.IsListIter i2 b i) (l1 : st.heap.IsList a xs) (l2 : st.heap.IsList b ys) (e1 : i ≤ xs.size) (e2 : i ≤ ys.size) (e : i = xs.size ∨ i = ys.size)
    (hQ : ∀ h' tk, (∀ c o, c ≠ z → c ≠ TO → c ≠ i1 → c ≠ i2 → st.heap.get? c = some o → h'.get? c = some o) → Q none { st with heap := h', toks := tk }) : wpAny (model prog w) A (pyNext (.ref z)) Q E st := by
  simp only [List.mem_cons, List.not_mem_nil, or_false, not_or] at nx
  obtain ⟨n1, n2, n3, n4, n5⟩ := nx
  have S : ZipSep2 z TI TO i1 i2 [i1, a, x1] [i2, b, x1] := {
    TIz := D.TIz, TOz := D.TOz, TITO := D.TITO, TIi1 := D.TIi1, TIi2 := D.TIi2
    mem1 := by simp
    mem2 := by simp
    zf1 := by simp [D.i1z.symm, D.l1z.symm, Ne.symm n1]
    zf2 := by simp [D.i2z.symm, D.l2z.symm, Ne.symm n1]
    Tf1 := by simp [D.TOi1, D.l1TO.symm, Ne.symm n3]
    Tf2 := by simp [D.TOi2, D.l2TO.symm, Ne.symm n3]
    sep1_2 := by simp [D.i12, D.l2i1.symm, Ne.symm n4]
    sep2_1 := by simp [D.i12.symm, D.l1i2.symm, Ne.symm n5] }
  exact wpAny_pyNext_zipD2_end S (draws_hot (A := A.in1) i1 a x1 D.l1i1 n4 xs) (draws_hot (A := A.in1) i2 b x1 D.l2i2 n5 ys) hz hTI hTO ⟨h1, l1, hot⟩ ⟨h2, l2, hot⟩ e1 e2 e hQ
end KW

set_option Elab.async false
set_option maxRecDepth 100000
set_option maxHeartbeats 2000000
/-! Rules that speak of no row: a list comprehension while an exception is handled. -/
namespace KW
open PySem PySem.Spec PyProof.Rows L2 HotX L2H
/-- the handled exception stood where the context began, out of its reach -/
def HotB (Y : Cx) : Prop := ∃ (x1 : Addr) (ob : Obj) (vs : Array Value), Y.A.handled = some (.ref x1) ∧ Y.s_0.heap.get? x1 = some ob ∧ ob.data = .fields vs ∧ vs[2]? = some .none ∧ Y.H_0 x1 = none ∧ x1 ∉ Y.fs ∧ x1 ∉ Y.ex
theorem HotB.at {Y : Cx} {pins : List (Addr × Obj)} {σ : L2.St} {H : Hp} {st : Shared} (h : HotB Y) (I : Inv Y pins σ H st) : ∃ x1, HotAt Y.A x1 st.heap ∧ x1 ∉ Y.ex := by
  obtain ⟨x1, ob, vs, hh, there, hd, hc, hn, nf, ne⟩ := h
  exact ⟨x1, ⟨hh, ob, vs, I.base.keep x1 ob there hn nf ne, hd, hc⟩, ne⟩
theorem pg_tupF {Y : Cx} {es : List Expr} {kk n : Nat} {t : TGs} {pos : Pos} (hot : HotB Y) (h : PGs Y es t) (hn : (assignEach es Y.env).length = n := by rfl) (hst : (assignEach es Y.env).findIdx? (·.1) = none := by rfl) : PG Y (.Tuple es kk pos) (gTup Y.K n t) := by
  refine ⟨fun pins st σ H v u Q I rel hyp => ?_⟩
  obtain ⟨a, xs, rfl, hsq, hlen, rest⟩ := hyp
  cases rel
  obtain ⟨x1, hotA, _⟩ := hot.at I
  obtain ⟨its, vals, isT, _⟩ := I.tuple hsq
  refine apart_hot hotA isT (by simp [hn, ← hlen, vals.length]) hst fun h' grown => ?_
  have I1 : Inv Y pins σ H { st with heap := h' } := I.kept (t' := st.toks) fun c o z => grown c o (Nat.ne_of_lt (Heap.lt_size z)) z
  exact h.run pins _ σ H xs _ Q I1 (by simpa using vals) rest
/-- an iterator while an exception is handled: x1 -/
structure TurnF (P : Program) (w : World) (K : PySem.W.Frag) (tg : Expr) (J : It) (fp : List Addr) (it : Addr) (tn : Nat → Heap → Prop) : Prop where
  obj : ∀ q h, tn q h → ∀ c ∈ fp, ∃ o, h.get? c = some o ∧ ∀ v, o.data ≠ .cell v
  keep : ∀ q h h', tn q h → (∀ c ∈ fp, ∀ o, h.get? c = some o → h'.get? c = some o) → tn q h'
  item : ∀ (X : Cx) (x1 : Addr), X.prog = P → X.w = w → X.K = K → x1 ∉ fp → ∀ (q : Nat) (pins : List (Addr × Obj)) (s : Shared) (σ : L2.St) (H : Hp) (E : Value → Shared → Prop), HotAt X.A x1 s.heap → Inv X pins σ H s → (∀ c ∈ fp, FpOk X pins H c) → tn q s.heap → J.go q H →
    wpAny (model P w) X.A (pyNext (.ref it)) (fun r s1 => ∃ u, r = some u ∧ wpAny (model P w) X.A (letOwnedTupleGo tg (.ref it) u) (fun _ s2 => ∃ x H', Inv X pins σ H' s2 ∧ RelV x u ∧ J.yld q H x H' ∧ tn (q + 1) s2.heap ∧ ∀ c ∈ fp, H' c = none) E s1) E s
  done : ∀ (X : Cx) (x1 : Addr), X.prog = P → X.w = w → X.K = K → x1 ∉ fp → ∀ (q : Nat) (pins : List (Addr × Obj)) (s : Shared) (σ : L2.St) (H : Hp) (E : Value → Shared → Prop), HotAt X.A x1 s.heap → Inv X pins σ H s → (∀ c ∈ fp, FpOk X pins H c) → tn q s.heap → J.stop q H →
    wpAny (model P w) X.A (pyNext (.ref it)) (fun r s1 => r = none ∧ Inv X pins σ H s1) E s
  self : ∀ (A : Around) (q : Nat) (s : Shared) (Q E : Value → Shared → Prop), tn q s.heap → Q (.ref it) s → wpAny (model P w) A (pyIter (.ref it)) Q E s
/-- two lists of one length, item by item in new pairs -/
def Itz1 (K : PySem.W.Frag) (a b : Addr) : It where
  go := fun i H => ∃ (xs ys : List V) (x y : V), SqL K H a xs ∧ SqL K H b ys ∧ xs[i]? = some x ∧ ys[i]? = some y
  yld := fun i H v H' => ∃ T x y, v = .ref T ∧ H T = none ∧ H' = upd H T (.tup [x, y]) ∧ (∀ xs, SqL K H a xs → xs[i]? = some x) ∧ ∀ ys, SqL K H b ys → ys[i]? = some y
  stop := fun i H => ∃ xs ys : List V, SqL K H a xs ∧ SqL K H b ys ∧ xs.length = i ∧ ys.length = i
theorem turn_zipF {P : Program} {w : World} {K : PySem.W.Frag} {es : List Expr} {kk : Nat} {tp : Pos} {a b z TI TO i1 i2 : Addr} (D : ZipApart z TI TO i1 i2 a b) :
    TurnF P w K (.Tuple es kk tp) (Itz1 K a b) [z, TI, TO, i1, i2] z (fun q h => IsZip h z TI TO .none ∧ IsPair h TI (.ref i1) (.ref i2) ∧ (∃ x y, IsPair h TO x y) ∧ h.IsListIter i1 a q ∧ h.IsListIter i2 b q) where
  obj := fun q h state c hc => by
    obtain ⟨hz, hTI, ⟨x, y, hTO⟩, ⟨o1, e1, _, d1⟩, ⟨o2, e2, _, d2⟩⟩ := state
    simp only [List.mem_cons, List.not_mem_nil, or_false] at hc
    rcases hc with rfl | rfl | rfl | rfl | rfl
    · exact ⟨_, hz, fun v bad => nomatch bad⟩
    · exact ⟨_, hTI, fun v bad => nomatch bad⟩
    · exact ⟨_, hTO, fun v bad => nomatch bad⟩
    · exact ⟨o1, e1, fun v bad => by rw [d1] at bad; cases bad⟩
    · exact ⟨o2, e2, fun v bad => by rw [d2] at bad; cases bad⟩
  keep := fun q h h' state stay => by
    obtain ⟨hz, hTI, ⟨x, y, hTO⟩, h1, h2⟩ := state
    exact ⟨stay z (by simp) _ hz, stay TI (by simp) _ hTI, ⟨x, y, stay TO (by simp) _ hTO⟩, h1.at fun o y => stay i1 (by simp) o y, h2.at fun o y => stay i2 (by simp) o y⟩
  item := by
    intro X x1 eP ew eK nx q pins s σ H E hot I fresh state going
    subst eP ew eK
    obtain ⟨hz, hTI, ⟨x0, y0, hTO⟩, h1, h2⟩ := state
    obtain ⟨xs, ys, x, y, hqx, hqy, hx, hy⟩ := going
    obtain ⟨its, vals, p1, _⟩ := I.list hqx
    obtain ⟨its2, vals2, p2, _⟩ := I.list hqy
    obtain ⟨u, hu, ru⟩ := vals.get hx
    obtain ⟨u2, hu2, ru2⟩ := vals2.get hy
    have zOld : z < s.heap.objs.size := Heap.lt_size hz
    refine wpAny_pyNext_zip_item D hz hTI hTO h1 h2 p1.isList p2.isList (x := u) (y := u2) (by simpa using hu) (by simpa using hu2) fun h' hz' hTO' h1' h2' new hsz hkeep => ?_
    refine ⟨_, rfl, wpAny_letOwnedTupleGo_zip (s := { s with heap := h' }) hz' fun hp2 hz2 same2 => ?_⟩
    have new2 : hp2.get? s.heap.objs.size = some { cls := .type "tuple", data := .seq #[u, u2] } := (same2.2 _ (Nat.ne_of_gt zOld)).trans new
    have okT : ObjOk X.prog X.w (upd H s.heap.objs.size (.tup [x, y])) hp2 s.heap.objs.size (.tup [x, y]) := ⟨by show 2 ≤ sizeLine; decide, [u, u2], .cons ru (.cons ru2 .nil), ⟨_, new2, rfl, _, rfl⟩⟩
    have kept : ∀ c o, c ∉ [z, TI, TO, i1, i2] → s.heap.get? c = some o → hp2.get? c = some o := fun c o hc ho => by
      simp only [List.mem_cons, List.not_mem_nil, or_false, not_or] at hc
      exact (same2.2 c hc.1).trans (hkeep c o hc.1 hc.2.2.1 hc.2.2.2.1 hc.2.2.2.2 ho)
    have I2 : Inv X pins σ (upd H s.heap.objs.size (.tup [x, y])) { s with heap := hp2 } := I.turnedNew (t' := s.toks) (ch := [z, TI, TO, i1, i2]) kept fresh (Nat.le_refl _) okT
    refine ⟨.ref s.heap.objs.size, _, I2, rfl, ⟨_, x, y, rfl, I.hok.fresh (Nat.le_refl _), rfl, fun l hl => by rw [I.list_inj hl hqx]; exact hx, fun l hl => by rw [I.list_inj hl hqy]; exact hy⟩,
      ⟨hz2, (same2.2 _ D.TIz).trans (hkeep _ _ D.TIz D.TITO D.TIi1 D.TIi2 hTI), ⟨u, u2, (same2.2 _ D.TOz).trans hTO'⟩, h1'.at fun o y => (same2.2 _ D.i1z).trans y, h2'.at fun o y => (same2.2 _ D.i2z).trans y⟩, fun c hc => ?_⟩
    have cOld : c < s.heap.objs.size := by
      simp only [List.mem_cons, List.not_mem_nil, or_false] at hc
      rcases hc with rfl | rfl | rfl | rfl | rfl
      · exact zOld
      · exact Heap.lt_size hTI
      · exact Heap.lt_size hTO
      · obtain ⟨_, e1, _⟩ := h1; exact Heap.lt_size e1
      · obtain ⟨_, e2, _⟩ := h2; exact Heap.lt_size e2
    rw [upd_ne (Nat.ne_of_lt cOld)]
    exact (fresh c hc).1
  done := by
    intro X x1 eP ew eK nx q pins s σ H E hot I fresh state stopping
    subst eP ew eK
    obtain ⟨hz, hTI, ⟨x0, y0, hTO⟩, h1, h2⟩ := state
    obtain ⟨xs, ys, hqx, hqy, l1, l2⟩ := stopping
    obtain ⟨its, vals, p1, _⟩ := I.list hqx
    obtain ⟨its2, vals2, p2, _⟩ := I.list hqy
    have m1 := vals.length
    have m2 := vals2.length
    refine zip_end_hot D hot nx hz hTI hTO h1 h2 p1.isList p2.isList (by simp; omega) (by simp; omega) (.inl (by simp; omega)) fun h' tk hk => ⟨rfl, I.turnedL (t' := tk) (ch := [z, TI, TO, i1, i2]) (fun c o hc ho => ?_) fresh⟩
    simp only [List.mem_cons, List.not_mem_nil, or_false, not_or] at hc
    exact hk c o hc.1 hc.2.2.1 hc.2.2.2.1 hc.2.2.2.2 ho
  self := fun A q s Q E state hq => wpAny_pyIter_zip state.1 hq
def iZipF (K : PySem.W.Frag) (ta : TA) : TI := fun σ H R => ta σ H fun vs H1 => ∃ a b xs ys, vs = [.ref a, .ref b] ∧ SqL K H1 a xs ∧ SqL K H1 b ys ∧ R (Itz1 K a b) H1
structure PIF (X : Cx) (tg iter : Expr) (wi : TI) : Prop where
  run : ∀ (pins : List (Addr × Obj)) (s : Shared) (σ : L2.St) (H : Hp) (R : It → Hp → Prop), Inv X pins σ H s → wi σ H R →
    wpAny (model X.prog X.w) X.A (eval iter X.env) (fun v s1 => wpAny (model X.prog X.w) X.A (pyIter v) (fun itv s2 => ∃ (it : Addr) (fp : List Addr) (tn : Nat → Heap → Prop) (J : It) (H' : Hp), itv = .ref it ∧ Inv X pins σ H' s2 ∧ TurnF X.prog X.w X.K tg J fp it tn ∧ tn 0 s2.heap ∧ (∀ c ∈ fp, FpOk X pins H' c) ∧ R J H') X.xe s1) X.xe s
theorem pi_zipF {X : Cx} {e e2 : Expr} {ta : TA} {p pos tp : Pos} {es : List Expr} {kk : Nat} (hg : Gl X "zip") (hm : X.mg "zip" = none) (ha : PA X [e, e2] ta)
    (hs : starEach [e, e2] X.env = (false, eval e X.env) :: starEach [e2] X.env := by rfl) (hpl : (backTo pos (starEach [e2] X.env)).any (·.1) = false := by rfl) :
    PIF X (.Tuple es kk tp) (.Call (.Name "zip" p) [e, e2] [] pos) (iZipF X.K ta) := by
  refine ⟨fun pins st σ H R I hyp => ?_⟩
  refine Call_ (ld_blt I hg hm PyProof.Rows.boot_zip (PyProof.Rows.callWith_type1 (thn (ha.run pos pins st σ H _ I hyp) fun us s1 ⟨vs, H1, I1, rel, rest⟩ => ?_) hs hpl))
  obtain ⟨a, b, xs, ys, rfl, hqx, hqy, hR⟩ := rest
  cases rel with
  | cons r1 rr =>
    cases rr with
    | cons r2 rr =>
      cases rr
      cases r1
      cases r2
      obtain ⟨its, vals, p1, _⟩ := I1.list hqx
      obtain ⟨its2, vals2, p2, _⟩ := I1.list hqy
      refine call_zip_2 p1.isList p2.isList fun h' hz hTI hTO h1 h2 hsz hk => wpAny_pyIter_zip hz ?_
      have I2 : Inv X pins σ H1 { s1 with heap := h' } := I1.kept (t' := s1.toks) hk
      refine ⟨s1.heap.objs.size + 4, [s1.heap.objs.size + 4, s1.heap.objs.size + 2, s1.heap.objs.size + 3, s1.heap.objs.size, s1.heap.objs.size + 1], _, _, H1, rfl, I2, turn_zipF (PySem.W.ktu_apart s1.heap.objs.size a b p1.lt p2.lt), ⟨hz, hTI, ⟨_, _, hTO⟩, h1, h2⟩, fun c hc => ?_, hR⟩
      have above : s1.heap.objs.size ≤ c := by
        simp only [List.mem_cons, List.not_mem_nil, or_false] at hc
        rcases hc with rfl | rfl | rfl | rfl | rfl
        · exact Nat.le_add_right _ _
        · exact Nat.le_add_right _ _
        · exact Nat.le_add_right _ _
        · exact Nat.le_refl _
        · exact Nat.le_add_right _ _
      exact I1.fpOk above (I1.hok.fresh above)
section
variable {X : Cx}
theorem lcF_core {pins : List (Addr × Obj)} {st : Shared} {σ : L2.St} {H : Hp} {Q : VK} {elt tg iter : Expr} {ifs : List Expr} {scope : Scope} {own : List (Str × Nat)} {pos pos' : Pos} {wi : TI} {g : TG} {tt : TT} {te : TE} {use : Option (Value → Sem Unit)} {Qf : Value → Shared → Prop}
    (hot : HotC X) (hN : X.N.Nodup) (I : Inv X pins σ H st) (hi : PIF X tg iter wi) (ok : BlkOk X.N X.env.scope scope own)
    (hg : ∀ (s : Shared) (H : Hp) (C : Addr) (cl : List (Str × Addr)) (fp : List Addr), HotB (X.blk s H scope (compEnvC scope cl C X.env) fp) → PG (X.blk s H scope (compEnvC scope cl C X.env) fp) tg g)
    (ht : ∀ (s : Shared) (H : Hp) (C : Addr) (cl : List (Str × Addr)) (fp : List Addr), HotB (X.blk s H scope (compEnvC scope cl C X.env) fp) → PTs (X.blk s H scope (compEnvC scope cl C X.env) fp) ifs tt)
    (he : ∀ (s : Shared) (H : Hp) (C : Addr) (cl : List (Str × Addr)) (fp : List Addr), HotB (X.blk s H scope (compEnvC scope cl C X.env) fp) → PE (X.blk s H scope (compEnvC scope cl C X.env) fp) elt te) (hs : ∀ x, foldedSetIterable iter X.env x = pure x)
    (hyp : tLc wi g tt te (own.map (·.2)) σ H Q)
    (ends : ∀ D C s' m H', Inv X pins σ H' s' → Q (.ref D) H' → s'.heap.Ns C m → FpOk X pins H' C → compPost (model X.prog X.w) X.A X.xe use Qf (.ref D) C (.ok .next) s') :
    wpAny (model X.prog X.w) X.A (comprehension (.ListComp elt [⟨tg, iter, ifs, 0⟩] scope pos) scope X.env pos' (newList []) false (eval iter X.env) use) Qf X.xe st := by
  have captured : ∀ y ∈ scope.names, y.2 = .free → ∃ c, X.env.cells.lookup y.1 = some c := fun y hy z => by
    rcases ok.free y hy z with k | k
    · exact I.ok.has _ (.inl k)
    · exact I.ok.has _ (.inr k)
  refine wpAny_comprehension_free (use := use) rfl hs (closure_ok captured) ok.kind (fun y hy z => by rw [ok.uniq y hy, z]) (thn (hi.run pins st σ H _ I hyp) fun xv s1 got => thn got fun itv s2 got2 => ?_)
  obtain ⟨it, fp, tn, J, H2, rfl, I2, T, st2, f2, rest⟩ := got2
  refine wpAny_newObj_type (newEnv_comp ?_) (by show 0 ≤ sizeLine; decide)
  generalize hD : s2.heap.objs.size = D
  have nD : H2 D = none := I2.hok.fresh (Nat.le_of_eq hD)
  obtain ⟨W, ⟨m0, w0⟩, turn⟩ := rest D nD
  generalize hs3 : ({ s2 with heap := s2.heap.push { cls := .type "list", data := .seq ([] : List Value).toArray } } : Shared) = s3
  have I3 : Inv X pins σ (upd H2 D (.lst [])) s3 := by
    rw [← hs3]
    refine I2.laid (t' := s2.toks) (fun b o z => Heap.get?_push_of_some _ z) (Nat.le_of_eq hD) ⟨Nat.zero_le _, [], 0, .nil, ?_⟩
    rw [← hD]
    exact Heap.get?_push_size _ rfl
  have heap3 : s3.heap = s2.heap.push { cls := .type "list", data := .seq ([] : List Value).toArray } := by rw [← hs3]
  have old : ∀ c ∈ fp, c < s2.heap.objs.size := fun c hc => by
    obtain ⟨o, z, _⟩ := T.obj _ _ st2 c hc
    exact Heap.lt_size z
  have f3 : ∀ c ∈ fp, FpOk X pins (upd H2 D (.lst [])) c ∧ c < s3.heap.objs.size := fun c hc => by
    have lt := old c hc
    refine ⟨⟨?_, (f2 c hc).2⟩, by rw [heap3, Heap.size_push]; exact Nat.lt_succ_of_lt lt⟩
    rw [upd_ne (by rw [← hD]; exact Nat.ne_of_lt lt)]
    exact (f2 c hc).1
  have st3 : tn 0 s3.heap := T.keep _ _ _ st2 fun c _ o z => by rw [heap3]; exact Heap.get?_push_of_some _ z
  have I4 := block_start I3 ok hN f3
  -- the handled exception
  obtain ⟨px, ⟨handled, vx, dx, cx⟩, mem⟩ := hot
  have pin3 := I3.pin px (List.mem_append_left _ mem)
  have nfp : px.1 ∉ fp := fun z => (f3 _ z).1.2.2.2.2.2 px (List.mem_append_left _ mem) rfl
  have nst : px.1 ∉ frs X.stack := fun z => (List.mem_cons.mp (I3.stkSub px.1 z)).elim pin3.2.2.1 pin3.2.2.2.1
  have hotB : ∀ ce : Env, HotB (X.blk s3 (upd H2 D (.lst [])) scope ce fp) := fun ce => ⟨px.1, px.2, vx, handled, pin3.1, dx, cx, pin3.2.1, nst, nfp⟩
  have pg := hg s3 (upd H2 D (.lst [])) s3.heap.objs.size (cellsFrom (s3.heap.objs.size + 1) scope.names (cloFrom X.env.cells scope.names [])) fp (hotB _)
  have pt := ht s3 (upd H2 D (.lst [])) s3.heap.objs.size (cellsFrom (s3.heap.objs.size + 1) scope.names (cloFrom X.env.cells scope.names [])) fp (hotB _)
  have pe := he s3 (upd H2 D (.lst [])) s3.heap.objs.size (cellsFrom (s3.heap.objs.size + 1) scope.names (cloFrom X.env.cells scope.names [])) fp (hotB _)
  show codeAny _ _ (.compStart (.ListComp elt [⟨tg, iter, ifs, 0⟩] scope pos) 0 (.ref it) (.ref D) (compEnvC scope (cellsFrom (s3.heap.objs.size + 1) scope.names (cloFrom X.env.cells scope.names [])) s3.heap.objs.size X.env)) (compPost (model X.prog X.w) X.A X.xe use Qf (.ref D) s3.heap.objs.size)
    { s3 with heap := pushCells (s3.heap.push { cls := .type "dict", data := .dict #[] }) scope.names }
  have nofp : ∀ c ∈ fp, (upd H2 D (.lst [])) c = none := fun c hc => (f3 c hc).1.1
  have hotBB := hotB (compEnvC scope (cellsFrom (s3.heap.objs.size + 1) scope.names (cloFrom X.env.cells scope.names [])) s3.heap.objs.size X.env)
  generalize hce : compEnvC scope (cellsFrom (s3.heap.objs.size + 1) scope.names (cloFrom X.env.cells scope.names [])) s3.heap.objs.size X.env = ce at I4 pg pt pe hotBB ⊢
  have eL : ce.locals = s3.heap.objs.size := by subst hce; rfl
  generalize hH3 : upd H2 D (.lst []) = H3 at I3 I4 pg pt pe w0 nofp f3 hotBB
  generalize hs4 : ({ s3 with heap := pushCells (s3.heap.push { cls := .type "dict", data := .dict #[] }) scope.names } : Shared) = s4 at I4 ⊢
  have st4 : tn 0 s4.heap := T.keep _ _ _ st3 fun c _ o z => by rw [← hs4]; exact pushCells_keeps _ _ _ _ (Heap.get?_push_of_some _ z)
  have still : ∀ {σ' : L2.St} {H' : Hp} {s' : Shared}, Inv (X.blk s3 H3 scope ce fp) [] σ' H' s' → (∀ c ∈ fp, H' c = none) → ∀ c ∈ fp, FpOk (X.blk s3 H3 scope ce fp) [] H' c := fun {σ' H' s'} I' hn c hc =>
    ⟨hn c hc, (I'.ok.exf c hc).1, I'.ok.exfs c hc, .inl hc, fun x d z => (I'.ok.exf c hc).2 x d z, fun p hp => absurd (show p ∈ ([] : List (Addr × Obj)) ++ [] from hp) (by simp)⟩
  have loop : codeAny (model X.prog X.w) X.A (.compLoop (.ListComp elt [⟨tg, iter, ifs, 0⟩] scope pos) 0 (.ref it) (.ref D) ce) (compPost (model X.prog X.w) X.A X.xe use Qf (.ref D) s3.heap.objs.size) s4 := by
    refine compLoop_any (fun n s' => ∃ q H', Inv (X.blk s3 H3 scope ce fp) [] (wipe σ (own.map (·.2))) H' s' ∧ tn q s'.heap ∧ (∀ c ∈ fp, H' c = none) ∧ W q n H') ?_ m0 ⟨0, H3, I4, st4, nofp, w0⟩
    rintro n s5 ⟨q, H5, I5, st5, n5, w5⟩
    obtain ⟨x1, hot5, nx1⟩ := hotBB.at I5
    rcases turn q n H5 w5 with ⟨stop, qq⟩ | ⟨go, Nx, hNx, step⟩
    · refine thnF (T.done (X.blk s3 H3 scope ce fp) x1 rfl rfl rfl nx1 q [] s5 _ H5 (fun _ _ => False) hot5 I5 (still I5 n5) st5 stop) fun r s6 ⟨hr, I6⟩ => ?_
      subst hr
      have I7 : Inv X pins σ H5 s6 := I3.call' (ch := fp) I6.os I6.base I6.hok I6.bare fun c hc => ⟨(f3 c hc).1.2.2.2.1, (f3 c hc).1.2.1, (f3 c hc).1.2.2.2.2.1, (f3 c hc).1.2.2.2.2.2⟩
      have nC : H5 s3.heap.objs.size = none := by
        have z : H5 ce.locals = none := I6.free
        rw [eL] at z
        exact z
      obtain ⟨m, hn, _⟩ := I6.loc
      have hn : s6.heap.Ns ce.locals m := hn
      rw [eL] at hn
      exact ends D s3.heap.objs.size s6 m H5 I7 qq hn (I3.fpOk (Nat.le_refl _) nC)
    · refine thnF (T.item (X.blk s3 H3 scope ce fp) x1 rfl rfl rfl nx1 q [] s5 _ H5 (fun _ _ => False) hot5 I5 (still I5 n5) st5 go) fun r s6 ⟨u, hr, h6⟩ => ?_
      subst hr
      refine thnF h6 fun _ s7 ⟨x, H7, I7, r7, y7, st7, n7⟩ => ?_
      have I7' := I7.pinned (still I7 n7) (T.obj _ _ st7)
      refine thnF (pg.run _ s7 _ H7 x u _ I7' r7 (step x H7 y7)) fun _ s8 ⟨σ8, H8, I8, hw8, q8⟩ => ?_
      refine thnF (pt.run _ s8 σ8 H8 _ I8 q8) fun b s9 ⟨H9, I9, q9⟩ => ?_
      have next : ∀ {s' : Shared} {H' : Hp}, Inv (X.blk s3 H3 scope ce fp) ([] ++ pinsAt fp s7.heap) σ8 H' s' → Nx H' → ∃ m, m < n ∧ ∃ q H', Inv (X.blk s3 H3 scope ce fp) [] (wipe σ (own.map (·.2))) H' s' ∧ tn q s'.heap ∧ (∀ c ∈ fp, H' c = none) ∧ W q m H' := fun {s' H'} I' nx => by
        obtain ⟨m', hm, w'⟩ := hNx H' nx
        have pin' : ∀ c ∈ fp, ∀ o, s7.heap.get? c = some o → s'.heap.get? c = some o ∧ H' c = none := fun c hc o z =>
          let y := I'.pin (c, o) (List.mem_append_right _ (List.mem_append_right _ (mem_pinsAt hc z)))
          ⟨y.1, y.2.1⟩
        have hl : (wipe σ (own.map (·.2))).length = σ8.length := by rw [← hw8, wipe_length]
        refine ⟨m', hm, q + 1, H', (I'.unpinned (pins := [])).weak hl (fun j v z => ?_), T.keep _ _ _ st7 fun c hc o z => (pin' c hc o z).1, fun c hc => ?_, w'⟩
        · rw [← hw8] at z
          exact (wipe_some z).1
        · obtain ⟨o, z, _⟩ := T.obj _ _ st7 c hc
          exact (pin' c hc o z).2
      cases b with
      | false =>
        simp only [Bool.false_eq_true, if_false] at q9 ⊢
        exact next I9 q9
      | true =>
        simp only [if_true] at q9 ⊢
        refine thnF (pe.run _ s9 σ8 H9 _ I9 q9) fun z s10 ⟨yv, H10, I10, r10, acc, hD10, hz10, nx⟩ => ?_
        exact app_ok (X := X.blk s3 H3 scope ce fp) I10 hD10 hz10 r10 fun s11 I11 => next I11 nx
  exact codeAny_compStart_list loop (T.self X.A 0 _ _ _ st4 loop)
/-- [elt for tg in iter if ..], while an exception is handled -/
theorem pe_lcF {elt tg iter : Expr} {ifs : List Expr} {scope : Scope} {own : List (Str × Nat)} {pos : Pos} {wi : TI} {g : TG} {tt : TT} {te : TE} (hot : HotC X) (hN : X.N.Nodup) (hi : PIF X tg iter wi) (ok : BlkOk X.N X.env.scope scope own)
    (hg : ∀ (s : Shared) (H : Hp) (C : Addr) (cl : List (Str × Addr)) (fp : List Addr), HotB (X.blk s H scope (compEnvC scope cl C X.env) fp) → PG (X.blk s H scope (compEnvC scope cl C X.env) fp) tg g)
    (ht : ∀ (s : Shared) (H : Hp) (C : Addr) (cl : List (Str × Addr)) (fp : List Addr), HotB (X.blk s H scope (compEnvC scope cl C X.env) fp) → PTs (X.blk s H scope (compEnvC scope cl C X.env) fp) ifs tt)
    (he : ∀ (s : Shared) (H : Hp) (C : Addr) (cl : List (Str × Addr)) (fp : List Addr), HotB (X.blk s H scope (compEnvC scope cl C X.env) fp) → PE (X.blk s H scope (compEnvC scope cl C X.env) fp) elt te) (hs : ∀ x, foldedSetIterable iter X.env x = pure x := by intro _; rfl) :
    PE X (.ListComp elt [⟨tg, iter, ifs, 0⟩] scope pos) (tLc wi g tt te (own.map (·.2))) := by
  refine ⟨fun pins st σ H Q I hyp => ?_⟩
  rw [eval_ListComp]
  refine lcF_core hot hN I hi ok hg ht he hs hyp fun D C s' m H' I' q hn f => ⟨m, hn, fun h2 sb => ?_⟩
  obtain ⟨g0, g1, g2, g3, g4, g5⟩ := f
  exact ⟨.ref D, H', I'.turned (t' := s'.toks) (fun b o nb z => (sb.2 b nb).trans z) g0 g1 g3 g4 g5, rfl, q⟩
end
end KW

set_option Elab.async false
set_option maxRecDepth 100000
set_option maxHeartbeats 2000000
/-! Rules that speak of no row: a lambda with one parameter that has a number as its default and is not asked for in the body. -/
namespace KW
open PySem PySem.Spec PyProof.Rows L2 LamX
theorem and_true_iff' {a b : Bool} (h : (a && b) = true) : a = true ∧ b = true := by
  rw [Bool.and_eq_true] at h
  exact h
/-- what the scope of such a lambda is: its one own name, x, is none of N; all else is captured or global -/
structure LamD (N : List Str) (x : Str) (sc scope : Scope) : Prop where
  plain : scope.kind = .function ∧ scope.isCoroutine = false ∧ scope.isGenerator = false
  mine : scope.names.lookup x = some .local ∧ x ∉ N
  each : ∀ y ∈ scope.names, y.2 ≠ .cell ∧ (y.2 = .local → y.1 = x) ∧ (y.2 = .free → sc.names.lookup y.1 = some .cell ∨ sc.names.lookup y.1 = some .free)
def lamDB (N : List Str) (x : Str) (sc scope : Scope) : Bool :=
  decide (scope.kind = .function ∧ scope.isCoroutine = false ∧ scope.isGenerator = false) && (decide (scope.names.lookup x = some .local ∧ x ∉ N) &&
    scope.names.all fun y => decide (y.2 ≠ .cell ∧ (y.2 = .local → y.1 = x) ∧ (y.2 = .free → sc.names.lookup y.1 = some .cell ∨ sc.names.lookup y.1 = some .free)))
theorem lamD_by {N : List Str} {x : Str} {sc scope : Scope} (h : lamDB N x sc scope = true) : LamD N x sc scope := by
  obtain ⟨h1, h23⟩ := and_true_iff' h
  obtain ⟨h2, h3⟩ := and_true_iff' h23
  exact ⟨of_decide_eq_true h1, of_decide_eq_true h2, fun y hy => of_decide_eq_true (List.all_eq_true.mp h3 y hy)⟩
theorem LamD.has {X : Cx} {x : Str} {scope : Scope} (L : LamD X.N x X.env.scope scope) (ok : X.Ok) : ∀ y ∈ scope.names, y.2 = .free → ∃ c, X.env.cells.lookup y.1 = some c := fun y hy e => ok.has _ ((L.each y hy).2.2 e)
/-- the table grows by one row; the code object that it names is new -/
theorem tabs_more {T : List (Addr × Str)} {H : Hp} {P new : Addr} {q : Str} {tab : Array Value} {pos : Pos} (all : Tabs T H) (one : ∀ p ∈ T, p.1 = P → p.2 = q) (here : H P = some (.tbl tab)) (free : H new = none) :
    ExtN H (upd (upd H P (.tbl (tab ++ #[rawInt pos.line, rawInt pos.col, .ref new]))) new (CodeO new q)) ∧ Tabs T (upd (upd H P (.tbl (tab ++ #[rawInt pos.line, rawInt pos.col, .ref new]))) new (CodeO new q)) := by
  have list : (tab ++ #[rawInt pos.line, rawInt pos.col, .ref new]).toList = tab.toList ++ [rawInt pos.line, rawInt pos.col, .ref new] := by simp
  have apart : P ≠ new := ne_of_none here free
  have keep : ExtN H (upd (upd H P (.tbl (tab ++ #[rawInt pos.line, rawInt pos.col, .ref new]))) new (CodeO new q)) := by
    intro z o old other
    have off : z ≠ P := fun same => by
      rw [same, here] at old
      exact other tab (Option.some.inj old).symm
    rw [upd_ne (ne_of_none old free), upd_ne off]
    exact old
  refine ⟨keep, fun p hp => ?_⟩
  obtain ⟨tb, stands, triples, codes⟩ := all p hp
  by_cases own : p.1 = P
  · have same : tab = tb := by
      rw [own, here] at stands
      exact HO.tbl.inj (Option.some.inj stands)
    subst same
    rw [one p hp own] at codes ⊢
    refine ⟨_, by rw [own, upd_ne apart, upd_same], by rw [list]; exact PySem.TriplesOk_snoc _ _ _ _ triples, fun place found look => ?_⟩
    rw [list] at look
    refine (among_app _ triples look).elim (fun older => ?_) fun latest => ⟨new, latest, upd_same⟩
    obtain ⟨z, ez, at_⟩ := codes place found older
    exact ⟨z, ez, keep _ _ at_ codeO_ne⟩
  · refine ⟨tb, by rw [upd_ne (ne_of_none stands free), upd_ne own]; exact stands, triples, fun place found look => ?_⟩
    obtain ⟨z, ez, at_⟩ := codes place found look
    exact ⟨z, ez, keep _ _ at_ codeO_ne⟩
/-- a place beyond the heap is no frame's -/
theorem no_frame {X : Cx} {pins : List (Addr × Obj)} {σ : L2.St} {H : Hp} {s : Shared} (I : Inv X pins σ H s) {z : Addr} (far : s.heap.objs.size ≤ z) : z ∉ frs X.stack := fun inside => by
  refine (List.mem_cons.mp (I.stkSub _ inside)).elim (fun same => ?_) fun below => I.nofs far below
  have small := I.lt
  rw [← same] at small
  exact absurd (Nat.lt_of_lt_of_le small far) (Nat.lt_irrefl _)
section
variable {X : Cx} {pins : List (Addr × Obj)} {σ : L2.St} {H : Hp} {s : Shared}
/-- such a lambda is made: its tuple of defaults is laid first -/
theorem lamD_make {T : List (Addr × Str)} {c P : Addr} {params : Arguments} {body : Expr} {scope : Scope} {pos : Pos} {E : Value → Shared → Prop} {Q : Value → Shared → Prop} {i : Int} {jn : Nat} {p0 : Pos} (I : Inv X pins σ H s) (TB : TabB X.base X.mg c P) (hcode : X.env.code = .ref c)
    (hm : (P, X.env.qual ++ "<lambda>") ∈ T) (hu : ∀ p ∈ T, p.1 = P → p.2 = X.env.qual ++ "<lambda>") (hT : Tabs T H) (hdef : params.defaults = [.Constant (.int i) jn p0]) (hk0 : params.kw_defaults = []) (hfree : ∀ y ∈ scope.names, y.2 = .free → ∃ c, X.env.cells.lookup y.1 = some c)
    (h : ∀ (f c' d : Addr) (v doc pm ctv : Value) (H1 : Hp) (s' : Shared), Inv X pins σ H1 s' → ExtN H H1 → Tabs T H1 →
      s'.heap.get? f = some (PySem.W.kdv_obj "<lambda>" (X.env.qual ++ "<lambda>") params (.expr body) scope (cloFrom X.env.cells scope.names []) (.ref d) doc pm c' ctv) → s'.heap.get? d = some (PySem.W.kdv_tup [v]) → H1 f = none → H1 d = none → f ∉ frs X.stack → d ∉ frs X.stack →
      H1 c' = some (CodeO c' (X.env.qual ++ "<lambda>")) → Q (.ref f) s') :
    wpAny (model X.prog X.w) X.A (eval (.Lambda params body scope pos) X.env) Q E s := by
  refine PySem.W.kdv_lam (by rw [hdef]; rfl) hk0 ?_
  rw [hdef]
  refine PySem.W.kdv_all1 (wpAny_Constant_int (PySem.W.kdv_all0 ?_))
  rw [makeFunction_eq]
  simp only [List.zip_nil_right, List.filterMap_nil, List.isEmpty_nil, List.isEmpty_cons, if_true, pure_bind, Bool.false_eq_true, if_false]
  refine wpAny_bind (wpAny_newTextTuple ?_)
  have more : ∀ b o, s.heap.get? b = some o → (s.heap.push (PySem.W.kdv_tup [.int i s.toks])).get? b = some o := fun b o e => Heap.get?_push_of_some _ e
  have I0 : Inv X pins σ H { s with heap := s.heap.push (PySem.W.kdv_tup [.int i s.toks]), toks := s.toks + 1 } := I.kept more
  have dHere : (s.heap.push (PySem.W.kdv_tup [.int i s.toks])).get? s.heap.objs.size = some (PySem.W.kdv_tup [.int i s.toks]) := Heap.get?_push_size _ rfl
  have dNone : H s.heap.objs.size = none := I.hok.fresh (Nat.le_refl _)
  have size1 : (s.heap.push (PySem.W.kdv_tup [.int i s.toks])).objs.size = s.heap.objs.size + 1 := by rw [Heap.size_push]
  obtain ⟨tab, here, triples, codes⟩ := hT (P, X.env.qual ++ "<lambda>") hm
  have here : H P = some (.tbl tab) := here
  have stands := I0.hok P _ here
  have dP : s.heap.objs.size ≠ P := fun same => by
    rw [← same, dNone] at here
    cases here
  have low : P < s.heap.objs.size + 1 := by
    rw [← size1]
    exact Heap.lt_size stands
  rcases seek : codeAmong pos tab.toList with _ | found
  · refine PySem.W.kdv_makeTail (mg := X.mg) (c := c) (P := P) (ps := tab) (closure_ok hfree) I0.ok.glob (I0.mod.glob.keeps I0.bk) hcode (TB.code.keeps I0.bk) stands triples seek TB.gP (TB.bm.keeps I0.bk) fun new ctv doc big tk same beyond within record row => ?_
    obtain ⟨_, co, fields, tq, en, isCode, isFields, isName⟩ := record
    cases en
    have beyond' : s.heap.objs.size + 1 ≤ new := by rw [← size1]; exact beyond
    have free : H new = none := I.hok.fresh (by omega)
    obtain ⟨grown, tabs1⟩ := tabs_more (pos := pos) hT hu here free
    have J := inv_table (t' := tk) (more := #[rawInt pos.line, rawInt pos.col, .ref new]) (h' := big.push (PySem.W.kdv_obj "<lambda>" (X.env.qual ++ "<lambda>") params (.expr body) scope (cloFrom X.env.cells scope.names []) (.ref s.heap.objs.size) doc ((X.mg "__name__").getD .none) new ctv)) I0 here
      (fun b o away e => Heap.get?_push_of_some _ (same b o away e)) (Heap.get?_push_of_some _ row) beyond ⟨co, fields, tq, Heap.get?_push_of_some _ isCode, isFields, isName⟩
    have a1 : big.objs.size ≠ new := by omega
    have a2 : big.objs.size ≠ P := Nat.ne_of_gt (Nat.lt_of_lt_of_le low (Nat.le_trans beyond' (Nat.le_of_lt within)))
    have a3 : s.heap.objs.size ≠ new := by omega
    exact h big.objs.size new s.heap.objs.size _ doc ((X.mg "__name__").getD .none) ctv _ _ J grown tabs1 (Heap.get?_push_size _ rfl) (Heap.get?_push_of_some _ (same _ _ dP dHere)) (by rw [upd_ne a1, upd_ne a2]; exact I.hok.fresh (by omega)) (by rw [upd_ne a3, upd_ne dP]; exact dNone) (no_frame I (by omega)) (no_frame I (Nat.le_refl _)) upd_same
  · obtain ⟨old, rfl, known⟩ := codes pos found seek
    refine PySem.W.kdv_makeTailHit (mg := X.mg) (c := c) (P := P) (ps := tab) (closure_ok hfree) I0.ok.glob (I0.mod.glob.keeps I0.bk) hcode (TB.code.keeps I0.bk) stands triples seek (TB.bm.keeps I0.bk) fun ctv doc big tk same larger => ?_
    have larger' : s.heap.objs.size + 1 ≤ big.objs.size := by rw [← size1]; exact larger
    have J : Inv X pins σ H { s with heap := big.push (PySem.W.kdv_obj "<lambda>" (X.env.qual ++ "<lambda>") params (.expr body) scope (cloFrom X.env.cells scope.names []) (.ref s.heap.objs.size) doc ((X.mg "__name__").getD .none) old ctv), toks := tk } := I.kept fun b o e => Heap.get?_push_of_some _ (same b o (more b o e))
    exact h big.objs.size old s.heap.objs.size _ doc ((X.mg "__name__").getD .none) ctv H _ J (ExtN.refl H) hT (Heap.get?_push_size _ rfl) (Heap.get?_push_of_some _ (same _ _ dHere)) (I.hok.fresh (by omega)) dNone (no_frame I (by omega)) (no_frame I (Nat.le_refl _)) known
end
section
variable {X : Cx} {pins : List (Addr × Obj)} {σ : L2.St} {H HZ : Hp} {s s1 : Shared}
/-- its body begins -/
theorem lamD_start {A : Around} {outer : List Env} {E : XK} {scope : Scope} {x : Str} {f c' : Addr} {h₁ : Heap} {tk : Nat} {m : Str → Option Value} (I : Inv X pins σ H s) (L : LamD X.N x X.env.scope scope) (e0 : Env0 X.prog X.w X.K X.mg X.base A outer s1 HZ) (hd : A.handled = none)
    (un : Un (frs X.stack) [] H HZ s.heap s1.heap) (hns : h₁.Ns s1.heap.objs.size m) (kp : ∀ b o, s1.heap.get? b = some o → h₁.get? b = some o) :
    Inv (lamCx X A outer s1 HZ E scope f c') [] σ HZ { s1 with heap := h₁, toks := tk } := by
  have cap : ∀ {y z}, (cloFrom X.env.cells scope.names []).lookup y = some z → X.env.cells.lookup y = some z := fun {y z} got => by
    rcases cloFrom_mem (PySem.mem_of_lookup got) with no | ⟨named, value⟩
    · exact absurd no (by simp)
    · obtain ⟨z1, real⟩ := L.has I.ok _ named rfl
      have real : X.env.cells.lookup y = some z1 := real
      have same : z = z1 := by
        rw [value, real] <;> rfl
      rw [same]
      exact real
  have got : ∀ {y}, scope.names.lookup y = some .free → ∃ z, (cloFrom X.env.cells scope.names []).lookup y = some z := fun {y} is => mem_lookup (cloFrom_has (cells := X.env.cells) (acc := []) (show (y, NameKind.free) ∈ scope.names from PySem.mem_of_lookup is))
  have lives : ∀ {z : Addr} {v : Option Value}, H z = none → s.heap.IsCell z v → h₁.IsCell z v := fun {z v} none_ ⟨o, there, data⟩ => by
    obtain ⟨_, later⟩ := un.any there none_ List.not_mem_nil
    exact ⟨_, kp _ _ later, data⟩
  have cells : ∀ {y z}, (cloFrom X.env.cells scope.names []).lookup y = some z → H z = none := fun {y z} e => I.freeC y z (cap e)
  have none_ex : ∀ z : Addr, z ∉ (lamCx X A outer s1 HZ E scope f c').ex := fun _ => List.not_mem_nil
  have sees : ∀ i y v, X.N[i]? = some y → σ[i]? = some (some v) → Vis scope y → ∃ u, L2.RelV v u ∧ ((scope.names.lookup y = some .local ∧ m y = some u) ∨ ((scope.names.lookup y = some .cell ∨ scope.names.lookup y = some .free) ∧ ∃ z, (cloFrom X.env.cells scope.names []).lookup y = some z ∧ h₁.IsCell z (some u))) := fun i y v at_ val vis => by
    rcases vis with k | k | k
    · have e := (L.each _ (PySem.mem_of_lookup k)).2.1 rfl
      have e : y = x := e
      subst e
      exact absurd (List.mem_of_getElem? at_) L.mine.2
    · exact absurd rfl (L.each _ (PySem.mem_of_lookup k)).1
    · have outerK := (L.each _ (PySem.mem_of_lookup k)).2.2 rfl
      have outerK : X.env.scope.names.lookup y = some .cell ∨ X.env.scope.names.lookup y = some .free := outerK
      obtain ⟨_, _, holds⟩ := I.loc
      obtain ⟨u, rel, way⟩ := holds i y v at_ val (.inr outerK)
      obtain ⟨z, isZ⟩ := got k
      refine ⟨u, rel, .inr ⟨.inr k, z, isZ, ?_⟩⟩
      rcases way with ⟨loc, _⟩ | ⟨_, z2, isZ2, cell⟩
      · have loc : X.env.scope.names.lookup y = some .local := loc
        rw [loc] at outerK
        rcases outerK with bad | bad <;> cases bad
      · have isZ2 : X.env.cells.lookup y = some z2 := isZ2
        rw [cap isZ] at isZ2
        cases isZ2
        exact lives (cells isZ) cell
  have okk : (lamCx X A outer s1 HZ E scope f c').Ok := ⟨e0.mod, L.plain.1, rfl, rfl, Nat.le_refl _, fun y y2 z e1 e2 => I.ok.inj y y2 z (cap e1) (cap e2), fun y k => k.elim (fun k => absurd rfl (L.each _ (PySem.mem_of_lookup (show scope.names.lookup y = some .cell from k))).1) (fun k => got (show scope.names.lookup y = some .free from k)),
    fun _ _ no _ => absurd (show false = true from no) Bool.false_ne_true, fun _ => hd, Around.frames_deeper e0.frames, .inr ⟨rfl, rfl⟩, fun z no => absurd no (none_ex z), e0.bs, e0.bsz, fun z _ _ => none_ex z, fun z no => absurd no (none_ex z), e0.funs, e0.frf⟩
  have held : ∀ y z, (cloFrom X.env.cells scope.names []).lookup y = some z → ∃ v, h₁.IsCell z v := fun y z e => by
    obtain ⟨v, cell⟩ := I.cell y z (cap e)
    exact ⟨v, lives (cells e) cell⟩
  have still : ∀ y z, (cloFrom X.env.cells scope.names []).lookup y = some z → HZ z = none := fun y z e => by
    obtain ⟨_, o, there, _⟩ := I.cell y z (cap e)
    exact un.free z o there (cells e) List.not_mem_nil
  exact ⟨okk, rfl, e0.bare, Un.kept kp, ⟨m, hns, sees⟩, held, e0.hok.fresh (Nat.le_refl _), still, fun q no => absurd (show q ∈ ([] : List (Addr × Obj)) from no) List.not_mem_nil, e0.hok.kept kp, I.len⟩
/-- it is asked, in the def that got it -/
theorem pe_askD {Ng : List Str} {qg : Str} {sg : Scope} {g f c' d : Addr} {cdg v doc pm ctv : Value} {params : Arguments} {body : Expr} {scope : Scope} {k i : Nat} {a x : Str} {pn : List (Addr × Obj)} {xe : Value → Shared → Prop} {W : WX} {E : XK} {tb : TE} {p1 p2 : Pos} {kb : Option (Array Value) → Sem (List (Str × Value))}
    (I : Inv X pins σ H s) (L : LamD X.N x X.env.scope scope) (there : s.heap.get? f = some (PySem.W.kdv_obj "<lambda>" (X.env.qual ++ "<lambda>") params (.expr body) scope (cloFrom X.env.cells scope.names []) (.ref d) doc pm c' ctv)) (dflt : s.heap.get? d = some (PySem.W.kdv_tup [v])) (unf : H f = none) (und : H d = none) (nofr : f ∉ frs X.stack) (nodr : d ∉ frs X.stack)
    (bind1 : bindArgs (PySem.W.kdv_fn "<lambda>" (X.env.qual ++ "<lambda>") params (.expr body) scope (cloFrom X.env.cells scope.names []) (.ref d) doc pm (.ref c') ctv) ⟨[], []⟩ = seqItems? (.ref d) >>= kb) (bind2 : kb (some #[v]) = pure [(x, v)])
    (tk : L2N.Takes ((gotCx X Ng qg sg g cdg s H).tr pn xe) W) (out : ∀ cls d σ' H', E cls d H' → W cls d σ' H') (room : Room (k + 1) (X.A.deeper (envOfC qg sg s.heap.objs.size g cdg)))
    (inside : ∀ (A : Around) (outer : List Env) (s : Shared) (H : Hp), Room k (A.deeper (lamEnv X scope s.heap.objs.size f c')) → PE (lamN X A outer s H E scope f c') body tb)
    (name : Ng[i]? = some a) (vis : Vis sg a) (nd : (a == ("__debug__" : Str)) = false := by decide) (nc : (a == ("__classdict__" : Str)) = false := by decide) :
    PE ((gotCx X Ng qg sg g cdg s H).tr pn xe) (.Call (.Name a p1) [] [] p2) (fun σZ HZ Q => σZ[i]? = some (some (.ref f)) ∧ HZ c' = some (CodeO c' (X.env.qual ++ "<lambda>")) ∧ tb σ HZ Q) := by
  refine ⟨fun pinsZ sZ σZ HZ Q IZ hyp => ?_⟩
  obtain ⟨slot, code, rest⟩ := hyp
  refine wpAny_Call_Name_kw (thn ((pe_var (pos := p1) (i := i) name vis nd nc).run pinsZ sZ σZ HZ (fun v H1 => v = .ref f ∧ H1 = HZ) IZ ⟨.ref f, slot, rfl, rfl⟩) fun u s1 ⟨v, H1, I1, r1, ev, eH⟩ => ?_)
  subst ev
  rw [eH] at I1
  obtain rfl : u = Value.ref f := r1
  have now := I1.base.keep f _ there unf nofr (fun z => nomatch (show f ∈ ([] : List Addr) from z))
  have nowd := I1.base.keep d _ dflt und nodr (fun z => nomatch (show d ∈ ([] : List Addr) from z))
  refine PySem.W.callWith_F0 ⟨_, _, _, _, now⟩ ?_
  have un : Un (frs X.stack) [] H HZ s.heap s1.heap := I1.base
  obtain ⟨⟨oc, vs, tt, hoc, hdc, hvc⟩, _, _⟩ := I1.hok c' _ code
  have runs : codeAny (model X.prog X.w) (X.A.deeper (envOfC qg sg s.heap.objs.size g cdg)) (.call (.ref f) ⟨[], []⟩) (CR (CN X.prog X.w) (envOfC qg sg s.heap.objs.size g cdg :: X.stack) X.prog X.w HZ s1 Q E) s1 := by
    refine PySem.W.kla_callFunE room.depth now rfl L.plain.2.1 L.plain.2.2 rfl ⟨c', oc, vs, tt, rfl, hoc, hdc, hvc⟩ ?_
    refine BindsTo.of_defaults (T := d) rfl nowd rfl bind1 bind2 _ _ _ _ ?_
    refine wpAny_newFunctionEnv (fun y hy => (L.each y hy).1) (fun y hy => by rw [List.mem_singleton.mp hy]; exact L.mine.1) (fun h₁ hns hsb => ⟨I1.nolimit.fresh _ hsb, ?_⟩) L.plain.1
    show codeAny _ _ (.expr body (lamEnv X scope s1.heap.objs.size f c')) _ _
    have kept : ∀ b o, s1.heap.get? b = some o → h₁.get? b = some o := fun b o z => hsb.extBut b o (Nat.ne_of_lt (Heap.lt_size z)) (Heap.get?_push_of_some _ z)
    have J : Inv (lamN X (X.A.deeper (envOfC qg sg s.heap.objs.size g cdg)) (envOfC qg sg s.heap.objs.size g cdg :: X.stack) s1 HZ E scope f c') [] σ HZ { s1 with heap := h₁, toks := s1.toks + [(x, v)].length } :=
      inv_xe (lamD_start (E := E) I L I1.env0 room.hd un hns kept)
    refine PySem.W.kla_codeExpr (wpAny_mono ((inside _ _ s1 HZ (room.deeper _)).run [] _ _ HZ Q J rest) (fun v s' got => ?_) fun er s' got => got)
    obtain ⟨v', H', J', rv, q⟩ := got
    exact ⟨v', H', J'.os, J'.bare, J'.base, J'.hok, rv, q⟩
  have hx : Passes (CN X.prog X.w) ((gotCx X Ng qg sg g cdg s H).tr pn xe) E := L2N.passes_call tk out
  refine wpAny_call (codeAny_mono runs fun res s' got => ?_)
  cases res with
  | error er => exact hx pinsZ σZ HZ s1 er s' I1 got
  | ok flow =>
    cases flow with
    | ret u => exact I1.after got
    | next => exact got.elim
    | brk => exact got.elim
    | cont => exact got.elim
end
section
variable {X : Cx}
/-- x(lambda y=0: body) -/
theorem pe_lamD {T : List (Addr × Str)} {TT : (XK → Hp → VK → Prop) → Hp → VK → Prop} {x a y : Str} {g c P : Addr} {k : Nat} {pg : Arguments} {bg : List Stmt} {sg : Scope} {dV kV doc pm cdv ct oc : Value} {an od : Option Addr} {osl : Array (Option Value)} {Ng : List Str}
    {params : Arguments} {body : Expr} {scope : Scope} {t : XK → TE} {p lpos pos p0 : Pos} {i : Int} {jn : Nat} (hg : Gl X x) (hm : X.mg x = some (.ref g)) (hk : PySem.W.keepIn X.K (.ref g) = true)
    (look : X.K.lookup g = some ⟨oc, od, .func (PySem.W.fnOf x x pg bg sg dV kV doc pm an cdv ct), osl⟩) (code : PySem.W.codeIn X.K cdv x = true) (hb : L2.Binds X.K (PySem.W.fnOf x x pg bg sg dV kV doc pm an cdv ct) [a] []) (Sg : FnScope Ng [a] sg) (hNg : Ng[0]? = some a) (vis : Vis sg a)
    (gives : GivesN X Ng x sg g cdv bg a (X.env.qual ++ "<lambda>") TT)
    (TB : TabB X.base X.mg c P) (hcode : X.env.code = .ref c) (inT : (P, X.env.qual ++ "<lambda>") ∈ T) (one : ∀ p ∈ T, p.1 = P → p.2 = X.env.qual ++ "<lambda>") (hk4 : 4 ≤ k + 1) (room : Room (k + 2) X.A) (L : LamD X.N y X.env.scope scope) (hdef : params.defaults = [.Constant (.int i) jn p0]) (hk0 : params.kw_defaults = [])
    (binds : ∀ (q : Str) (cl : List (Str × Addr)) (d : Addr) (v doc pm cv ctv : Value), ∃ kb, bindArgs (PySem.W.kdv_fn "<lambda>" q params (.expr body) scope cl (.ref d) doc pm cv ctv) ⟨[], []⟩ = seqItems? (.ref d) >>= kb ∧ kb (some #[v]) = pure [(y, v)])
    (inside : ∀ (A : Around) (outer : List Env) (s : Shared) (H : Hp) (E : XK) (f c' : Addr), Room k (A.deeper (lamEnv X scope s.heap.objs.size f c')) → PE (lamN X A outer s H E scope f c') body (t E))
    (hdb : (x == ("__debug__" : Str)) = false := by decide) (nd : (a == ("__debug__" : Str)) = false := by decide) (nc : (a == ("__classdict__" : Str)) = false := by decide) :
    PE X (.Call (.Name x p) [.Lambda params body scope lpos] [] pos) (tLam T TT t) := by
  refine ⟨fun pins st σ H Q I hyp => ?_⟩
  obtain ⟨tabs, hyp⟩ := hyp
  refine wpAny_Call_Name_kw (ld_glob I hg hm ?_ hdb)
  refine PySem.W.callWith_K (h₀ := X.base) I.ok.mod.kin hk ?_ (by rfl) (by rfl)
  show wpAny _ _ (spliced ((false, eval (.Lambda params body scope lpos) X.env) :: backTo pos (starEach [] X.env))) _ _ st
  refine Calls.spliced_cons (lamD_make I TB hcode inT one tabs hdef hk0 (L.has I.ok) fun f c' d v doc' pm' ctv H1 s' I1 grown T1 there dflt unf und nofr nodr coded => ?_)
  refine Calls.spliced_nil ⟨I1.kIn, ?_⟩
  have runs : codeAny (model X.prog X.w) X.A (.call (.ref g) ⟨[.ref f], []⟩) (CR C8.CX0 X.stack X.prog X.w H1 s' Q C8.E0) s' := by
    refine run_ofS (N := Ng) (ps := [a]) (us := [.ref f]) (vs := [.ref f]) look code Sg room I1.env0 (hb s' [.ref f] I1.kIn rfl) (.cons rfl .nil) rfl fun room' => ?_
    obtain ⟨kb, b1, b2⟩ := binds (X.env.qual ++ "<lambda>") (cloFrom X.env.cells scope.names []) d v doc' pm' (.ref c') ctv
    obtain ⟨t', ht', hq'⟩ := gives f c' s' H1 Q (fun E H' Q' => t E σ H' Q') (room'.mono hk4) (fun W pn xe E p1 p2 tk out => pe_askD (i := 0) I1 L there dflt unf und nofr nodr b1 b2 tk out room' (fun A outer s H r2 => inside A outer s H E f c' r2) hNg vis nd nc) coded (hyp H1 grown T1)
    exact ⟨t', ht'.nox, hq'⟩
  refine wpAny_call (codeAny_mono runs fun res s2 got => ?_)
  cases res with
  | error er => exact (show False from got).elim
  | ok flow =>
    cases flow with
    | ret u => exact I1.after got
    | next => exact got.elim
    | brk => exact got.elim
    | cont => exact got.elim
end
end KW

set_option Elab.async false
set_option maxRecDepth 100000
set_option maxHeartbeats 2000000
/-! The head by one run: what is read of the heap behind the top, facts by names. -/
namespace KW
open PySem PySem.Spec PyProof.Rows L2 LamX
/-- the objects at these places, tables left out -/
def frM (g : Addr → Option Obj) : List Addr → PySem.W.Frag
  | [] => []
  | b :: r => match g b with
    | none => frM g r
    | some ⟨c, d, t, s⟩ => match c, t with
      | .none, .fields _ => frM g r
      | c, t => (b, ⟨c, d, t, s⟩) :: frM g r
theorem look_cons {a b : Addr} {u o : Obj} {r : PySem.W.Frag} (e : List.lookup a ((b, u) :: r) = some o) : (a = b ∧ u = o) ∨ r.lookup a = some o := by
  rw [List.lookup_cons] at e
  split at e
  · rename_i q
    exact .inl ⟨beq_iff_eq.mp q, Option.some.inj e⟩
  · exact .inr e
theorem frM_at {g : Addr → Option Obj} {a : Addr} {o : Obj} : ∀ as : List Addr, (frM g as).lookup a = some o → g a = some o
  | [], e => nomatch (show (none : Option Obj) = some o from e)
  | b :: r, e => by
    have ih := frM_at (g := g) (a := a) (o := o) r
    unfold frM at e
    split at e
    · exact ih e
    · rename_i c d t s hb
      split at e
      · exact ih e
      · rcases look_cons e with ⟨e1, e2⟩ | e1
        · rw [e1, hb, e2]
        · exact ih e1
theorem frM_in {as : List Addr} {h : Heap} : (frM h.get? as).In h := fun _ _ e => frM_at as e
/-- what of an object is looked at next: a name space's values, a class's name space, a def's code and defaults -/
def refsM (o : Obj) : List Addr := match o.data with
  | .dict es _ => es.toList.flatMap fun e => He.refV e.val
  | .func fd => He.refV fd.code ++ He.refV fd.defaults
  | .cls cd => [cd.ns]
  | _ => (match o.dict with
    | some d => [d]
    | none => [])
def nextM (g : Addr → Option Obj) (as : List Addr) : List Addr := as.flatMap fun a => match g a with
  | some o => refsM o
  | none => []
/-- what is reached in n steps, step by step -/
def asM (g : Addr → Option Obj) : Nat → List Addr → List Addr
  | 0, as => as
  | n + 1, as => as ++ asM g n (nextM g as)
/-- one fact of the written part -/
abbrev Fct : Type := PySem.W.Frag → Bool
def obsM (fa : List Fct) (fn : List He.DefD) (K : PySem.W.Frag) : He.AlD := ((fa.all fun f => f K) && (fn.all fun d => d.ok K), fn.map fun d => He.fnW K d.at_)
def SaysM (fa : List Fct) (fn : List He.DefD) (K : PySem.W.Frag) : Prop := obsM fa fn K = He.valD fn
def obsMG (n : Nat) (fa : List Fct) (fn : List He.DefD) (g : Addr → Option Obj) : He.AlD := obsM fa fn (frM g (cStatics :: asM g n [mainGlobals]))
def hookM (n : Nat) (fa : List Fct) (fn : List He.DefD) : PySem.W.Hook where
  α := He.AlD
  obs := fun st => obsMG n fa fn st.heap.get?
  val := fun _ => He.valD fn
  says := fun _ hp => ∃ K : PySem.W.Frag, K.In hp ∧ SaysM fa fn K
  of := fun _ _ eq => ⟨_, frM_in, eq⟩
  keeps := fun _ _ _ ⟨K, inK, says⟩ kept => ⟨K, PySem.W.Frag.In.keeps inK kept, says⟩
theorem obsMG_eq {n : Nat} {fa : List Fct} {fn : List He.DefD} {g : Addr → Option Obj} {st : Shared} (h : ∀ a, g a = st.heap.get? a) : obsMG n fa fn g = (hookM n fa fn).obs st := by
  have eg : g = st.heap.get? := funext h
  rw [eg]
  rfl
section
variable {fa : List Fct} {fn : List He.DefD} {K : PySem.W.Frag}
theorem SaysM.both (c : SaysM fa fn K) : ((fa.all fun f => f K) && (fn.all fun d => d.ok K)) = true := congrArg (fun z : He.AlD => z.1) c
theorem SaysM.fact (c : SaysM fa fn K) (i : Nat) {f : Fct} (h : fa[i]? = some f) : f K = true :=
  List.all_eq_true.mp (Bool.and_eq_true_iff.mp c.both).1 f (List.mem_of_getElem? h)
theorem SaysM.dec (c : SaysM fa fn K) (i : Nat) {p : PySem.W.Frag → Prop} [inst : ∀ K, Decidable (p K)] (h : fa[i]? = some fun K => decide (p K)) : p K := of_decide_eq_true (c.fact i h)
theorem SaysM.def_ (c : SaysM fa fn K) (i : Nat) {d : He.DefD} (h : fn[i]? = some d) : ∃ fd, FunD K d.name d.qual d.params d.body d.scope (d.dvs K) (d.kws K) (He.fAd K d.at_) fd := by
  have each : fn.map (fun d => He.fnW K d.at_) = fn.map He.DefD.val := congrArg (fun z : He.AlD => z.2) c
  have one : (fn.map fun d => He.fnW K d.at_)[i]? = (fn.map He.DefD.val)[i]? := congrArg (fun l : List He.FnW => l[i]?) each
  rw [List.getElem?_map, List.getElem?_map, h] at one
  exact He.DefD.funD (Option.some.inj one) (List.all_eq_true.mp (Bool.and_eq_true_iff.mp c.both).2 d (List.mem_of_getElem? h))
end
/-- a def without defaults -/
theorem fun_of {K : PySem.W.Frag} {x qual : Str} {st : Stmt} {f : Addr} {fd : FuncData} (D : FunD K x qual (defArgs st) (defBody st) (defScope st) [] [] f fd) : Fun K x qual st f fd := by
  obtain ⟨⟨oc, od, dV, kV, doc, pm, an, cdv, ct, sl, e1, e2, e3, e4, _⟩, kp⟩ := D
  rcases e4 with ⟨_, rfl⟩ | ⟨no, _⟩
  · exact ⟨⟨oc, od, kV, doc, pm, an, cdv, ct, sl, e1, e2, e3⟩, kp⟩
  · exact absurd rfl no
/-- a class of refusals under ValueError -/
def excB (K : PySem.W.Frag) (C : Addr) : Bool := match K.lookup C with
  | some ⟨.type t, _, .cls cd, ⟨[_, _, _, _, some (.builtin n), _]⟩⟩ => decide (t = "type") && (decide (n = "ValueError.__new__") && (cd.hasDict && (!cd.hasDel && (match cd.mro with
    | .ref c :: bm => decide (c = C) && PySem.HandSPX.refsVE bm
    | _ => false))))
  | _ => false
theorem excB_ok {K : PySem.W.Frag} {C : Addr} (h : excB K C = true) : ∃ nm q N bs bm sn sub ab col dd k0 k1 k2 k3 k5, K.lookup C = some (excClassObj nm q C N bs bm true sn sub ab col dd k0 k1 k2 k3 k5 "ValueError.__new__") ∧ PySem.HandSPX.refsVE bm = true := by
  unfold excB at h
  split at h
  · rename_i t dd cd k0 k1 k2 k3 n k5 e
    simp only [Bool.and_eq_true, decide_eq_true_eq, Bool.not_eq_true'] at h
    obtain ⟨h1, h2, h3, h4, h5⟩ := h
    split at h5
    · rename_i c bm em
      simp only [Bool.and_eq_true, decide_eq_true_eq] at h5
      obtain ⟨h6, h7⟩ := h5
      obtain ⟨n1, n2, n3, n4, n5, n6, n7, n8, n9, n10, n11⟩ := cd
      subst h1 h2
      have em' : n3 = .ref c :: bm := em
      have h3' : n6 = true := h3
      have h4' : n11 = false := h4
      subst h6 em' h3' h4'
      exact ⟨_, _, _, _, _, _, _, _, _, _, _, _, _, _, _, e, h7⟩
    · cases h5
  · cases h
/-- a def whose code has an own table -/
def lawB (K : PySem.W.Frag) (f : Addr) : Bool := match K.lookup f with
  | some ⟨_, _, .func fd, _⟩ => (match fd.code with
    | .ref c => (match K.lookup c with
      | some ⟨.type t, _, .fields vs, _⟩ => decide (t = "code") && (match vs.getD 11 .none, vs.getD 18 .none, vs.getD 7 .none, vs.getD 9 .none, vs.getD 10 .none with
        | .ref p, .str _ _, .int _ _, .bool _, .int _ _ => (K.lookup p).isNone && !decide (c = p)
        | _, _, _, _, _ => false)
      | _ => false)
    | _ => false)
  | _ => false
theorem lawB_ok {K : PySem.W.Frag} {f : Addr} {oc : Value} {od : Option Addr} {fd : FuncData} {sl : Array (Option Value)} (e : K.lookup f = some ⟨oc, od, .func fd, sl⟩) (h : lawB K f = true) :
    ∃ (c p : Addr) (dC : Option Addr) (vC : Array Value) (slC : Array (Option Value)) (file : Str) (tf tg tt : Tok) (fl te : Int) (b : Bool), fd.code = .ref c ∧ K.lookup c = some ⟨.type "code", dC, .fields vC, slC⟩ ∧ vC[11]? = some (.ref p) ∧ vC.getD 11 .none = .ref p ∧ vC.getD 18 .none = .str file tf ∧
      vC.getD 7 .none = .int fl tg ∧ vC.getD 9 .none = .bool b ∧ vC.getD 10 .none = .int te tt ∧ c ≠ p ∧ K.lookup p = none := by
  unfold lawB at h
  rw [e] at h
  dsimp only at h
  split at h
  · rename_i c ec
    split at h
    · rename_i t dC vC slC el
      simp only [Bool.and_eq_true, decide_eq_true_eq] at h
      obtain ⟨h1, h2⟩ := h
      subst h1
      split at h2
      · rename_i p file tf fl tg b te tt q1 q2 q3 q4 q5
        simp only [Bool.and_eq_true, Bool.not_eq_true', decide_eq_false_iff_not, Option.isNone_iff_eq_none] at h2
        refine ⟨c, p, dC, vC, slC, file, tf, tg, tt, fl, te, b, ec, el, ?_, q1, q2, q3, q4, q5, h2.2, h2.1⟩
        rw [Array.getD_eq_getD_getElem?] at q1
        cases z : vC[11]? with
        | none =>
          rw [z] at q1
          cases q1
        | some v =>
          rw [z] at q1
          exact congrArg some q1
      · cases h2
    · cases h
  · cases h
/-- a def of a class, found by the class itself -/
def clsB (K : PySem.W.Frag) (o t : Value) (m : Str) (v : Value) : Bool := match PySem.W.findCls K o t m with
  | some (.val u) => decide (u = v)
  | _ => false
theorem clsB_ok {K : PySem.W.Frag} {o t v : Value} {m : Str} (h : clsB K o t m v = true) : PySem.W.findCls K o t m = some (.val v) := by
  unfold clsB at h
  split at h
  · rename_i u e
    rw [e, of_decide_eq_true h]
  · cases h
/-- the end, where the law holds lambdas; the written part is told by the head -/
theorem walk_own {l : PySem.W.OpenLaw} {n k : Nat} {q : Program} {loose : List Str} {XP : (Str → Option Value) → Heap → Prop} {YP : World → Heap → Prop} {d : DefRec} {x : Str}
    (most : l.most = some n) (few : n ≤ sizeLine) (nodef : d.params.defaults = []) (room : Room k callerA) (inq : ((recsOf q).any fun e => e.name == d.name) = true)
    (at_ : ∀ (w : World) (mg : Str → Option Value) (f : Addr) (hp : Heap), YP w hp → hp.Ns mainGlobals mg → mg d.name = some (.ref f) → ∃ K : PySem.W.Frag, K.In hp ∧ (OwnTab K f hp → LawAtS l w K L2.CX0 k n x mg f hp)) :
    PySem.W.WalkO q loose XP YP l.row.toRowW d [] (fun f vs => PySem.call f vs) := by
  refine Att.attach_callB most nodef fun w sa sb mg mb f ob pm cd doc a us ns ground says _ _ _ named objs are_ len bits gens => ?_
  obtain ⟨K, inK, rest⟩ := at_ w mg f _ says ground.T.g named
  have own : OwnTab K f sb.heap := by
    intro c p o1 fd1 e1 dd vs1 sl a1 a2 a3 a4 a5
    obtain ⟨dl, hd, hn⟩ := List.any_eq_true.mp inq
    obtain ⟨f2, o2, fd2, c2, p2, b1, b2, b3, b4, b5, b6⟩ := ground.T.tab dl hd
    rw [show dl.name = d.name from beq_iff_eq.mp hn, named] at b1
    cases b1
    rw [inK _ _ a1] at b2
    cases b2
    rw [a2] at b3
    cases b3
    rw [a3] at b4
    cases b4
    obtain ⟨⟨oz, vz, z1, _, z3, z4⟩, tab⟩ := b6
    rw [inK _ _ a4] at z1
    cases z1
    cases z3
    rw [a5] at z4
    cases z4
    exact tab
  obtain ⟨fd, cs, sp, t1, t2, t3, binds, keeps, ok⟩ := rest own
  exact law_callTs inK ground.T.g ground.T.b ground.T.builtins ground.T.nolimit gens t1 t2 t3 ground.T.bmain objs are_ (Nat.le_trans len few) room ok binds (fun H h1 h2 => keeps H a ns len bits h1 h2) fun _ _ _ z => z
end KW


set_option Elab.async false
set_option maxRecDepth 100000
/-! The law's drawing: bag, pull. -/
namespace KW
open PySem PySem.Spec PyProof.Rows L2
def topS (i : Nat) : Stmt := PySem.Challenge.pw_aheadfold_k03_rows_of_webs.main.body.getD i (.Pass ⟨0, 0, 0, 0⟩)
abbrev sBag : Stmt := topS 42
abbrev sPull : Stmt := topS 43
theorem cut63 (ns : List Int) : cutV (ns.map V.int) none (some 63) = (ns.take 63).map V.int := by
  have e : cutV (ns.map V.int) none (some ((63 : Nat) : Int)) = (ns.take 63).map V.int := by
    unfold cutV
    rw [HT.sIx_none, HT.sIx_nat, List.length_map, List.drop_zero, Nat.sub_zero, ← List.map_take]
    congr 1
    rw [List.take_eq_take_iff]
    omega
  exact e
def spBag (K : PySem.W.Frag) : Sp := fun vs H Q _ => ∃ (a : Addr) (ns : List Int), vs = [.ref a] ∧ SqL K H a (ns.map V.int) ∧
  ∀ (H' : Hp) (b l : Addr), Same H H' → H b = none → H l = none → BagAt b l (ns.take 63) H' → Q (.ref b) H'
def spPull : Sp := fun vs H Q _ => ∃ (b l : Addr) (ns : List Int) (m : Int), vs = [.ref b, .int m] ∧ BagAt b l ns H ∧ 0 < m ∧ m < 2 ^ 100 ∧
  ∀ (H' : Hp) (r : Int), 0 ≤ r → r < m → Off b H H' → BagAt b l ns H' → Q (.int r) H'
section
variable {P : Program} {w : World} {K : PySem.W.Frag} {mg : Str → Option Value} {base : Heap}
theorem scBag : FnScope ["_law_script", "_law_seed", "_law_cell"] ["_law_script"] (defScope sBag) := ⟨rfl, rfl, rfl, by decide +kernel, rfl, by decide +kernel, by decide +kernel⟩
theorem ok_bag {f : Addr} {fd : FuncData} (F : Fun K "_law_bag" "_law_bag" sBag f fd) (mL : mg "list" = none) : FnOk P w K mg base CX0 1 f fd ["_law_script"] (spBag K) := by
  refine F.ok scBag (fun vs H Q E h => ?_) (fun cdv A outer s H vs Q E hr h => ?_)
  · obtain ⟨a, ns, rfl, _⟩ := h
    rfl
  · obtain ⟨a, ns, rfl, hS, k⟩ := h
    refine ⟨_, pss_cons (ps_set (i := 1) scBag.nd rfl (Or.inl rfl) pe_int)
      (pss_cons (ps_for PassesOwn.never rfl (pi_list (pe_slice sl_list (pv 0) po_none (po_some pe_int))) (pg_name (i := 2) scBag.nd rfl (Or.inl rfl))
        (pss_one (ps_set (i := 1) scBag.nd rfl (Or.inl rfl) (pe_op op_mod (pe_op op_add (pe_op op_add (pe_op op_mul (pv 1) pe_int) (pv 2)) pe_int) pe_int))))
      (pss_one (ps_ret (pe_lst (pa_cons (pe_callTy call_list_of (by rfl) mL (by decide +kernel) (pa_cons (pe_slice sl_list (pv 0) po_none (po_some pe_int)) pa_nil))
        (pa_cons pe_int (pa_cons pe_int (pa_cons (pv 1) (pa_cons pe_int pa_nil))))))))), ?_⟩
    refine ⟨_, rfl, 63, rfl, a, _, rfl, hS, fun p hp => ?_⟩
    have hS1 : Same H (upd H p (.lst (cutV (ns.map V.int) none (some 63)))) := fun b o e => by
      rw [upd_ne (ne_of_none e hp)]
      exact e
    refine ⟨p, rfl, ⟨_, SqL.of upd_same⟩, for_list (K := K) (a := p) (xs := (ns.take 63).map V.int) (fun i σ H' => ∃ (z : Int) (v : Option V), σ = [some (.ref a), some (.int z), v] ∧ H' = upd H p (.lst (cutV (ns.map V.int) none (some 63))))
      ⟨53, none, rfl, rfl⟩ (fun i σ H' _ ⟨_, _, _, e⟩ => ?_) ?_ ?_⟩
    · rw [e, cut63]
      exact SqL.of upd_same
    · rintro i y σ H' hi ⟨z, v, rfl, rfl⟩
      obtain ⟨u, rfl⟩ : ∃ u, y = V.int u := by
        rw [List.getElem?_map] at hi
        cases e : (ns.take 63)[i]? with
        | none =>
          rw [e] at hi
          cases hi
        | some u =>
          rw [e] at hi
          exact ⟨u, (Option.some.inj hi).symm⟩
      refine ⟨_, rfl, _, _, rfl, rfl, .inr ⟨by decide, by decide⟩, _, rfl, _, _, rfl, rfl, _, _, rfl, rfl, _, _, rfl, rfl, (by show (0 : Int) < 2147483629; decide), ?_⟩
      exact ⟨_, _, rfl, rfl⟩
    · rintro σ H' ⟨z, v, rfl, rfl⟩
      refine ⟨_, rfl, 63, rfl, a, _, rfl, hS1.seq hS, fun p2 hp2 => ?_⟩
      refine ⟨p2, _, rfl, .inl (SqL.of upd_same), fun l hl => ?_⟩
      refine ⟨_, rfl, (by show 5 ≤ sizeLine; decide), fun b hb => ?_⟩
      have hp2' : H p2 = none := hS1.free hp2
      have hl' : H l = none := by
        have q : l ≠ p2 := fun e => by
          rw [e, upd_same] at hl
          cases hl
        rw [upd_ne q] at hl
        exact hS1.free hl
      have nbl : b ≠ l := fun e => by
        rw [e, upd_same] at hb
        cases hb
      have hb1 := hb
      rw [upd_ne nbl] at hb1
      have nb2 : b ≠ p2 := fun e => by
        rw [e, upd_same] at hb1
        cases hb1
      rw [upd_ne nb2] at hb1
      refine k _ b l (fun c o e => ?_) (hS1.free hb1) hl' ⟨⟨0, 0, z, 0, upd_same, Int.le_refl _⟩, ?_, nbl⟩
      · rw [upd_ne (ne_of_none e (hS1.free hb1)), upd_ne (ne_of_none e hl'), upd_ne (ne_of_none e hp2')]
        exact hS1 _ _ e
      · rw [upd_ne nbl.symm, upd_same, cut63]
theorem scPull : FnScope ["_law_bag_here", "_law_many_here", "_law_rest", "_law_cell", "_law_one", "_law_two"] ["_law_bag_here", "_law_many_here"] (defScope sPull) := ⟨rfl, rfl, rfl, by decide +kernel, rfl, by decide +kernel, by decide +kernel⟩
theorem div_ok {z m : Int} (h : 0 < m) (h2 : m < 2 ^ 100) : CDivW z m := wide_div h (b := 100) (by omega) (by decide) (by decide)
theorem ok_pull {f : Addr} {fd : FuncData} (F : Fun K "_law_pull" "_law_pull" sPull f fd) (mLen : mg "len" = none) : FnOk P w K mg base CX0 1 f fd ["_law_bag_here", "_law_many_here"] spPull := by
  refine F.ok scPull (fun vs H Q E h => ?_) (fun cdv A outer s H vs Q E hr h => ?_)
  · obtain ⟨b, l, ns, m, rfl, _⟩ := h
    rfl
  · obtain ⟨b, l, ns, m, rfl, B, hm, hm2, k⟩ := h
    obtain ⟨⟨i, r, sd, c, hb, hi⟩, hl, nbl⟩ := id B
    refine ⟨_, pss_cons (ps_augS (pv 0) pe_int get_list pe_int ip_add set_list)
      (pss_cons (ps_if (pt_cmpR op_gt (pe_ix ix_list (pv 0) pe_int (fun _ _ => rfl)) pe_int (nomark _))
        (pss_cons (ps_set (i := 2) scPull.nd rfl (Or.inl rfl) (pe_ix ix_list (pv 0) pe_int (fun _ _ => rfl)))
          (pss_cons (ps_asg (pe_op op_fdivW (pv 2) (pv 1)) (pg_sub (pv 0) pe_int set_list))
            (pss_one (ps_ret (pe_op op_mod (pv 2) (pv 1)))))) pss_nil)
      (pss_cons (ps_set (i := 3) scPull.nd rfl (Or.inl rfl) (pe_ix ix_list (pv 0) pe_int (fun _ _ => rfl)))
      (C8.pss_cut (ps_if (pt_cmpR op_lt (pe_ix ix_list (pv 0) pe_int (fun _ _ => rfl)) (pe_callB call_len_seq (by rfl) mLen PySem.boot_len (pa_cons (pe_ix ix_list (pv 0) pe_int (fun _ _ => rfl)) pa_nil)) (nomark _))
        (pss_cons (ps_set (i := 3) scPull.nd rfl (Or.inl rfl) (pe_ix ix_list (pe_ix ix_list (pv 0) pe_int (fun _ _ => rfl)) (pe_ix ix_list (pv 0) pe_int (fun _ _ => rfl)) (fun _ _ => rfl)))
          (pss_one (ps_augS (pv 0) pe_int get_list pe_int ip_add set_list))) pss_nil)
      (pss_cons (ps_if (pt_cmpR op_ge (pv 3) (pe_op op_pow pe_int pe_int) (nomark _))
        (pss_cons (ps_asg (pe_op op_fdivW (pv 3) (pv 1)) (pg_sub (pv 0) pe_int set_list))
          (pss_one (ps_ret (pe_op op_mod (pv 3) (pv 1))))) pss_nil)
      (pss_cons (ps_set (i := 4) scPull.nd rfl (Or.inl rfl) (pe_op op_mod (pe_op op_add (pe_op op_add (pe_op op_add (pe_op op_mul (pv 3) pe_int) (pe_op op_mul (pe_ix ix_list (pv 0) pe_int (fun _ _ => rfl)) pe_int)) (pe_op op_mul (pe_ix ix_list (pv 0) pe_int (fun _ _ => rfl)) pe_int)) pe_int) pe_int))
      (pss_cons (ps_set (i := 5) scPull.nd rfl (Or.inl rfl) (pe_op op_mod (pe_op op_add (pe_op op_add (pe_op op_mul (pv 4) (pe_op op_add (pe_op op_mod (pv 4) pe_int) pe_int)) (pe_op op_mul (pe_ix ix_list (pv 0) pe_int (fun _ _ => rfl)) pe_int)) (pe_op op_mod (pe_ix ix_list (pv 0) pe_int (fun _ _ => rfl)) pe_int)) pe_int))
      (pss_cons (ps_asg (pe_op op_mod (pe_op op_add (pe_op op_mul (pe_ix ix_list (pv 0) pe_int (fun _ _ => rfl)) pe_int) (pv 5)) pe_int) (pg_sub (pv 0) pe_int set_list))
      (pss_one (ps_ret (pe_op op_mod (pe_op op_fdiv (pv 5) pe_int) (pv 1))))))))))), ?_⟩
    -- bag[4] += 1
    refine ⟨_, rfl, b, _, 4, _, rfl, rfl, SqL.of hb, rfl, _, _, rfl, rfl, b, _, 4, 4, rfl, rfl, hb, rfl, ?_⟩
    have hb1 : upd H b (.lst [.ref l, .int i, .int r, .int sd, .int (c + 1)]) b = some (.lst [.ref l, .int i, .int r, .int sd, .int (c + 1)]) := upd_same
    have hl1 : upd H b (.lst [.ref l, .int i, .int r, .int sd, .int (c + 1)]) l = some (.lst (ns.map V.int)) := by
      rw [upd_ne nbl.symm]
      exact hl
    -- if bag[2] > 0
    refine ⟨_, rfl, b, _, 2, _, rfl, rfl, SqL.of hb1, rfl, _, _, rfl, rfl, _, rfl, ?_⟩
    refine ite2 (fun _ => ?_) (fun _ => ?_)
    · refine ⟨_, rfl, b, _, 2, _, rfl, rfl, SqL.of hb1, rfl, _, rfl, _, rfl, _, _, rfl, rfl, div_ok hm hm2, _, rfl, b, _, 2, 2, rfl, rfl, hb1, rfl, _, rfl, _, rfl, _, _, rfl, rfl, hm, ?_⟩
      refine k _ _ (Int.emod_nonneg _ (by omega)) (Int.emod_lt_of_pos _ hm) ?_ ?_
      · exact Off.upd.trans Off.upd
      · rw [upd_upd]
        exact B.put hi
    · refine ⟨_, rfl, b, _, 3, _, rfl, rfl, SqL.of hb1, rfl, ?_⟩
      refine ⟨fun σ' H' => ∃ (z j : Int), σ' = [some (.ref b), some (.int m), none, some (.int z), none, none] ∧ H' = upd H b (.lst [.ref l, .int j, .int r, .int sd, .int (c + 1)]) ∧ 0 ≤ j, ?_, ?_⟩
      · refine ⟨_, rfl, b, _, 1, _, rfl, rfl, SqL.of hb1, rfl, _, rfl, b, _, 0, _, rfl, rfl, SqL.of hb1, rfl, l, _, rfl, .inl (SqL.of hl1), _, _, rfl, rfl, _, rfl, ?_⟩
        refine ite2 (fun hc => ?_) (fun _ => ?_)
        · have hlt : i < ((ns.map V.int).length : Int) := of_decide_eq_true hc
          rw [List.length_map] at hlt
          obtain ⟨j, rfl⟩ := Int.eq_ofNat_of_zero_le hi
          have hj : j < ns.length := by omega
          have hat : (ns.map V.int)[j]? = some (.int ns[j]) := by
            rw [List.getElem?_map, List.getElem?_eq_getElem hj]
            rfl
          refine ⟨_, rfl, b, _, 0, _, rfl, rfl, SqL.of hb1, rfl, _, rfl, b, _, 1, _, rfl, rfl, SqL.of hb1, rfl, l, _, _, _, rfl, rfl, SqL.of hl1, atI_nat hat, ?_⟩
          refine ⟨_, rfl, b, _, 1, _, rfl, rfl, SqL.of hb1, rfl, _, _, rfl, rfl, b, _, 1, 1, rfl, rfl, hb1, rfl, ?_⟩
          exact ⟨_, (j : Int) + 1, rfl, upd_upd, by omega⟩
        · exact ⟨sd, i, rfl, rfl, hi⟩
      · rintro σ' H' ⟨z, j, rfl, rfl, hj⟩
        have hb2 : upd H b (.lst [.ref l, .int j, .int r, .int sd, .int (c + 1)]) b = some (.lst [.ref l, .int j, .int r, .int sd, .int (c + 1)]) := upd_same
        refine ⟨_, rfl, _, _, rfl, rfl, ⟨by decide, by decide, by decide⟩, _, _, rfl, rfl, _, rfl, ?_⟩
        refine ite2 (fun _ => ?_) (fun _ => ?_)
        · refine ⟨_, rfl, _, rfl, _, _, rfl, rfl, div_ok hm hm2, _, rfl, b, _, 2, 2, rfl, rfl, hb2, rfl, _, rfl, _, rfl, _, _, rfl, rfl, hm, ?_⟩
          refine k _ _ (Int.emod_nonneg _ (by omega)) (Int.emod_lt_of_pos _ hm) (Off.upd.trans Off.upd) ?_
          rw [upd_upd]
          exact B.put hj
        · refine ⟨_, rfl, _, _, rfl, rfl, .inr ⟨by decide, by decide⟩, _, rfl, b, _, 3, _, rfl, rfl, SqL.of hb2, rfl, _, _, rfl, rfl, .inr ⟨by decide, by decide⟩, _, _, rfl, rfl, _, rfl, b, _, 4, _, rfl, rfl, SqL.of hb2, rfl, _, _, rfl, rfl, .inr ⟨by decide, by decide⟩, _, _, rfl, rfl, _, _, rfl, rfl, _, _, rfl, rfl, (by show (0 : Int) < 2147483629; decide), ?_⟩
          generalize hone : ((z * 48271 + sd * 40503 + (c + 1) * 69621 + 9176) % 2147483629 : Int) = one
          have h1 : 0 ≤ one := by rw [← hone]; exact Int.emod_nonneg _ (by decide)
          have h2 : one < 2147483629 := by rw [← hone]; exact Int.emod_lt_of_pos _ (by decide)
          refine ⟨_, rfl, _, rfl, _, _, rfl, rfl, (by show (0 : Int) < 65521; decide), _, _, rfl, rfl, _, _, rfl, rfl, .inl ⟨by omega, by omega⟩, _, rfl, b, _, 4, _, rfl, rfl, SqL.of hb2, rfl, _, _, rfl, rfl, .inr ⟨by decide, by decide⟩, _, _, rfl, rfl, _, rfl, b, _, 3, _, rfl, rfl, SqL.of hb2, rfl, _, _, rfl, rfl, (by show (0 : Int) < 104729; decide), _, _, rfl, rfl, _, _, rfl, rfl, (by show (0 : Int) < 998244353; decide), ?_⟩
          refine ⟨_, rfl, b, _, 3, _, rfl, rfl, SqL.of hb2, rfl, _, _, rfl, rfl, .inr ⟨by decide, by decide⟩, _, rfl, _, _, rfl, rfl, _, _, rfl, rfl, (by show (0 : Int) < 2147483563; decide), _, rfl, b, _, 3, 3, rfl, rfl, hb2, rfl, _, rfl, _, _, rfl, rfl, ⟨by decide, by decide⟩, _, rfl, _, _, rfl, rfl, hm, ?_⟩
          refine k _ _ (Int.emod_nonneg _ (by omega)) (Int.emod_lt_of_pos _ hm) (Off.upd.trans Off.upd) ?_
          rw [upd_upd]
          exact B.put hj
end
end KW


set_option Elab.async false
set_option maxRecDepth 100000
/-! The law's drawing: of, far, mixed, web. -/
namespace KW
open PySem PySem.Spec PyProof.Rows L2
/-! ### heaps -/
/-- what stood stands, but for b -/
def Grow (b : Addr) (H H' : Hp) : Prop := ∀ a o, a ≠ b → H a = some o → H' a = some o
theorem Grow.refl (b : Addr) (H : Hp) : Grow b H H := fun _ _ _ h => h
theorem Grow.trans {b : Addr} {H H1 H2 : Hp} (x : Grow b H H1) (y : Grow b H1 H2) : Grow b H H2 := fun a o n h => y a o n (x a o n h)
theorem Off.grow {b : Addr} {H H' : Hp} (x : Off b H H') : Grow b H H' := fun a o n h => (x a n).trans h
theorem Grow.new {b : Addr} {H H1 : Hp} (x : Grow b H H1) {p : Addr} {o : HO} (n : H p = none) : Grow b H (upd H1 p o) := fun a u na h => by
  rw [upd_ne (ne_of_none h n)]
  exact x a u na h
/-- what never changes: tuples, locked things -/
def Fix : HO → Prop
  | .tup _ => True
  | .frz _ _ => True
  | _ => False
/-- they stay -/
def Kp (H H' : Hp) : Prop := ∀ a o, Fix o → H a = some o → H' a = some o
theorem Kp.t {H H' : Hp} (k : Kp H H') {a : Addr} {xs : List V} (h : H a = some (.tup xs)) : H' a = some (.tup xs) := k a _ trivial h
theorem Kp.f {H H' : Hp} (k : Kp H H') {a : Addr} {xs : List V} (h : FzT H a xs) : FzT H' a xs := by
  obtain ⟨o, h, d⟩ := h
  exact ⟨o, k a _ trivial h, d⟩
theorem Kp.refl (H : Hp) : Kp H H := fun _ _ _ h => h
theorem Kp.trans {H H1 H2 : Hp} (x : Kp H H1) (y : Kp H1 H2) : Kp H H2 := fun a o f h => y a o f (x a o f h)
theorem Fix.ne {o : HO} (f : Fix o) {xs : List V} : o ≠ .lst xs := fun z => by
  subst z
  exact f
theorem Kp.off {b : Addr} {H H' : Hp} {xs : List V} (h : H b = some (.lst xs)) (x : Off b H H') : Kp H H' := fun a o f e => by
  rw [x a (ne_of e h f.ne)]
  exact e
theorem Kp.grow {b : Addr} {H H' : Hp} {xs : List V} (h : H b = some (.lst xs)) (x : Grow b H H') : Kp H H' := fun a o f e => x a _ (ne_of e h f.ne) e
theorem Kp.new {H : Hp} {p : Addr} {o : HO} (n : H p = none) : Kp H (upd H p o) := fun a u _ h => by
  rw [upd_ne (ne_of_none h n)]
  exact h
theorem Kp.put {H : Hp} {p : Addr} {xs : List V} {o : HO} (h : H p = some (.lst xs)) : Kp H (upd H p o) := fun a u f e => by
  rw [upd_ne (ne_of e h f.ne)]
  exact e
theorem BagAt.list {b l : Addr} {ns : List Int} {H : Hp} (B : BagAt b l ns H) : ∃ xs, H b = some (.lst xs) := by
  obtain ⟨⟨i, r, s, c, h, _⟩, _⟩ := B
  exact ⟨_, h⟩
theorem BagAt.new {b l : Addr} {ns : List Int} {H : Hp} (B : BagAt b l ns H) {p : Addr} {o : HO} (n : H p = none) : BagAt b l ns (upd H p o) := by
  obtain ⟨⟨i, r, s, c, h, hi⟩, hl, nbl⟩ := B
  exact ⟨⟨i, r, s, c, by rw [upd_ne (ne_of_none h n)]; exact h, hi⟩, by rw [upd_ne (ne_of_none hl n)]; exact hl, nbl⟩
/-- another list is written -/
theorem BagAt.other {b l : Addr} {ns : List Int} {H : Hp} (B : BagAt b l ns H) {p : Addr} {o : HO} (n1 : b ≠ p) (n2 : l ≠ p) : BagAt b l ns (upd H p o) := by
  obtain ⟨⟨i, r, s, c, h, hi⟩, hl, nbl⟩ := B
  exact ⟨⟨i, r, s, c, by rw [upd_ne n1]; exact h, hi⟩, by rw [upd_ne n2]; exact hl, nbl⟩
theorem BagAt.nb {b l : Addr} {ns : List Int} {H : Hp} (B : BagAt b l ns H) {p : Addr} (n : H p = none) : b ≠ p := by
  obtain ⟨xs, h⟩ := B.list
  exact ne_of_none h n
theorem BagAt.nl {b l : Addr} {ns : List Int} {H : Hp} (B : BagAt b l ns H) {p : Addr} (n : H p = none) : l ≠ p := ne_of_none B.2.1 n
/-! ### pairs -/
def IsP (H : Hp) (v : V) (p : Nat × Nat) : Prop := ∃ a, v = .ref a ∧ H a = some (.tup [.int p.1, .int p.2])
abbrev PairsIn (H : Hp) (as : List V) (ps : List (Nat × Nat)) : Prop := Paired (IsP H) as ps
theorem IsP.kp {H H' : Hp} {v : V} {p : Nat × Nat} (k : Kp H H') (h : IsP H v p) : IsP H' v p := by
  obtain ⟨a, e, h⟩ := h
  exact ⟨a, e, k.t h⟩
theorem PairsIn.kp {H H' : Hp} (k : Kp H H') : ∀ {as : List V} {ps : List (Nat × Nat)}, PairsIn H as ps → PairsIn H' as ps
  | _, _, .nil => .nil
  | _, _, .cons a r => .cons (a.kp k) (PairsIn.kp k r)
theorem paired_snoc {α β : Type} {R : α → β → Prop} : ∀ {as : List α} {bs : List β} {a : α} {b : β}, Paired R as bs → R a b → Paired R (as ++ [a]) (bs ++ [b])
  | _, _, _, _, .nil, h => .cons h .nil
  | _, _, _, _, .cons x r, h => .cons x (paired_snoc r h)
theorem paired_perm {α β : Type} {R : α → β → Prop} {xs ys : List α} (h : ys.Perm xs) : ∀ {bs : List β}, Paired R xs bs → ∃ cs, Paired R ys cs ∧ cs.Perm bs := by
  induction h with
  | nil => intro bs r; cases r; exact ⟨[], .nil, .nil⟩
  | cons x p ih =>
    intro bs r
    cases r with
    | cons a r =>
      obtain ⟨cs, h1, h2⟩ := ih r
      exact ⟨_, .cons a h1, h2.cons _⟩
  | swap x y l =>
    intro bs r
    cases r with
    | cons a r =>
      cases r with
      | cons a' r => exact ⟨_, .cons a' (.cons a r), .swap ..⟩
  | trans p q ih1 ih2 =>
    intro bs r
    obtain ⟨cs, h1, h2⟩ := ih2 r
    obtain ⟨ds, h3, h4⟩ := ih1 h1
    exact ⟨ds, h3, h4.trans h2⟩
theorem erase_perm {α : Type} : ∀ {xs : List α} {k : Nat} {y : α}, xs[k]? = some y → (y :: xs.eraseIdx k).Perm xs
  | [], k, y, h => by simp at h
  | x :: xs, 0, y, h => by
    have e : x = y := by simpa using h
    subst e
    exact List.Perm.refl _
  | x :: xs, k + 1, y, h => by
    have ih := erase_perm (xs := xs) (k := k) (y := y) (by simpa using h)
    show (y :: x :: xs.eraseIdx k).Perm (x :: xs)
    exact (List.Perm.swap ..).trans (ih.cons x)
/-- n rooms, arrows ps, an arrow out of each room -/
def Good (n : Nat) (ps : List (Nat × Nat)) : Prop := 1 ≤ n ∧ (∀ p ∈ ps, p.1 < n ∧ p.2 < n) ∧ ∀ r, r < n → ∃ p ∈ ps, p.1 = r
def WebT (H : Hp) (t : Addr) (n : Nat) (ps : List (Nat × Nat)) : Prop := ∃ q as, H t = some (.tup [.int n, .ref q]) ∧ FzT H q as ∧ PairsIn H as ps ∧ Good n ps
theorem WebT.kp {H H' : Hp} (k : Kp H H') {t n ps} (h : WebT H t n ps) : WebT H' t n ps := by
  obtain ⟨q, as, h1, h2, h3, h4⟩ := h
  exact ⟨q, as, k.t h1, k.f h2, PairsIn.kp k h3, h4⟩
theorem WebT.two {H : Hp} {t q n ps} {m : Int} (h : WebT H t n ps) (e : H t = some (.tup [.int m, .ref q])) : m = n ∧ ∃ as, FzT H q as ∧ PairsIn H as ps := by
  obtain ⟨q', as, h1, h2, h3, h4⟩ := h
  rw [h1] at e
  cases e
  exact ⟨rfl, as, h2, h3⟩
/-! ### promises -/
abbrev sMixed : Stmt := topS 49
abbrev sWeb : Stmt := topS 50
def spMixed (K : PySem.W.Frag) : Sp := fun vs H Q _ => ∃ (b l a : Addr) (ns : List Int) (xs : List V), vs = [.ref b, .ref a] ∧ BagAt b l ns H ∧ SqL K H a xs ∧ xs.length ≤ 1000 ∧
  ∀ (H' : Hp) (p : Addr) (ys : List V), Grow b H H' → H p = none → H' p = some (.lst ys) → ys.Perm xs → BagAt b l ns H' → Q (.ref p) H'
def spWeb : Sp := fun vs H Q _ => ∃ (b l : Addr) (ns : List Int) (rm mm : Nat), vs = [.ref b, .int rm, .int mm] ∧ BagAt b l ns H ∧ 1 ≤ rm ∧ rm ≤ 100 ∧ mm ≤ 100 ∧
  ∀ (H' : Hp) (t : Addr) (n : Nat) (ps : List (Nat × Nat)), Grow b H H' → WebT H' t n ps → n ≤ rm → ps.length ≤ rm + mm → BagAt b l ns H' → Q (.ref t) H'
section
variable {P : Program} {w : World} {K : PySem.W.Frag} {mg : Str → Option Value} {base : Heap}
theorem scMixed : FnScope ["_law_bag_here", "_law_some", "_law_left", "_law_found", "_law_k"] ["_law_bag_here", "_law_some"] (defScope sMixed) := ⟨rfl, rfl, rfl, by decide +kernel, rfl, by decide +kernel, by decide +kernel⟩
theorem ok_mixed {f fP : Addr} {fd fdP : FuncData} (F : Fun K "_law_mixed" "_law_mixed" sMixed f fd) (GP : FnOk P w K mg base CX0 1 fP fdP ["_law_bag_here", "_law_many_here"] spPull) (bP : Binds K fdP ["_law_bag_here", "_law_many_here"] []) (mP : mg "_law_pull" = some (.ref fP)) (kP : PySem.W.keepIn K (.ref fP) = true)
    (mLen : mg "len" = none) (mList : mg "list" = none) (mRange : mg "range" = none) : FnOk P w K mg base CX0 2 f fd ["_law_bag_here", "_law_some"] (spMixed K) := by
  refine F.ok scMixed (fun vs H Q E h => ?_) (fun cdv A outer s H vs Q E hr h => ?_)
  · obtain ⟨b, l, a, ns, xs, rfl, _⟩ := h
    rfl
  · obtain ⟨b, l, a, ns, xs, rfl, B, hS, hlen, k⟩ := h
    refine ⟨_, pss_cons (ps_par (by rfl) scMixed.nd (i := 2) (j := 3) rfl rfl (by decide) rfl rfl (pa_cons (pe_callTy call_list_of (by rfl) mList (by decide +kernel) (pa_cons (pv 1) pa_nil)) (pa_cons (pe_lst pa_nil) pa_nil)) (by rfl))
      (pss_cons (ps_for PassesOwn.never rfl (pi_range1 (by rfl) mRange (pa_cons (pe_callB call_len_seq (by rfl) mLen PySem.boot_len (pa_cons (pv 1) pa_nil)) pa_nil)) (pg_name (i := 4) scMixed.nd rfl (Or.inl rfl))
        (pss_one (ps_expr (pe_bm PySem.F.plainAttrs_list PySem.F.slot_list_append PySem.F.type_list_append mt_append (pv 3) (pa_cons
          (pe_bm PySem.F.plainAttrs_list PySem.F.slot_list_pop PySem.F.type_list_pop mt_popAt (pv 2) (pa_cons
            (pe_call GP hr rfl mP kP bP .nil pass0 (pa_cons (pv 0) (pa_cons (pe_callB call_len_seq (by rfl) mLen PySem.boot_len (pa_cons (pv 2) pa_nil)) pa_nil))) pa_nil)) pa_nil)))))
      (pss_one (ps_ret (pv 3)))), ?_⟩
    refine ⟨_, rfl, a, xs, rfl, .inl hS, fun lf hlf => ⟨Nat.zero_le _, fun fd' hfd => ⟨_, _, rfl, ?_⟩⟩⟩
    have nfl : fd' ≠ lf := fun e => by
      rw [e, upd_same] at hfd
      cases hfd
    have hfd0 : H fd' = none := by
      rw [upd_ne nfl] at hfd
      exact hfd
    have S2 : Same H (upd (upd H lf (.lst xs)) fd' (.lst [])) := fun c o e => by
      rw [upd_ne (ne_of_none e hfd0), upd_ne (ne_of_none e hlf)]
      exact e
    have G2 : Grow b H (upd (upd H lf (.lst xs)) fd' (.lst [])) := fun c o _ e => S2 c o e
    refine ⟨_, rfl, a, xs, rfl, .inl (S2.seq hS), _, rfl, by omega, by omega, for_range (lo := 0) (n := xs.length) (fun i σ H' => ∃ (v : Option V) (L Fo : List V), σ = [some (.ref b), some (.ref a), some (.ref lf), some (.ref fd'), v] ∧ H' lf = some (.lst L) ∧ H' fd' = some (.lst Fo) ∧
        (Fo ++ L).Perm xs ∧ Fo.length = i ∧ BagAt b l ns H' ∧ Grow b H H')
      ⟨none, xs, [], rfl, by rw [upd_ne nfl.symm, upd_same], upd_same, List.Perm.refl _, rfl, (B.new hlf).new hfd, G2⟩ ?_ ?_⟩
    · rintro i σ H' hi ⟨v, L, Fo, rfl, hL, hF, hp, hfl, B', G'⟩
      have hll : Fo.length + L.length = xs.length := by
        have := hp.length_eq
        rw [List.length_append] at this
        exact this
      have nbl : b ≠ lf := B.nb hlf
      have nbf : b ≠ fd' := B.nb hfd0
      have nll : l ≠ lf := B.nl hlf
      have nlf : l ≠ fd' := B.nl hfd0
      refine ⟨_, rfl, .inl ⟨rfl, _, SqL.of hF⟩, _, rfl, .inl ⟨rfl, _, SqL.of hL⟩, _, rfl, _, rfl, lf, _, rfl, .inl (SqL.of hL), b, l, ns, _, rfl, B', by omega, by omega, fun H2 r h0 h1 O2 B2 => ?_⟩
      have hL2 : H2 lf = some (.lst L) := by rw [O2 lf nbl.symm]; exact hL
      have hF2 : H2 fd' = some (.lst Fo) := by rw [O2 fd' nbf.symm]; exact hF
      obtain ⟨j, rfl⟩ := Int.eq_ofNat_of_zero_le h0
      have hj : j < L.length := by omega
      have hat : L[j]? = some L[j] := List.getElem?_eq_getElem hj
      have hsq : seqIndex? ((j : Nat) : Int) L.length = some j := by
        rw [seqIndex_of (by omega) (by omega)]
        rfl
      refine ⟨lf, _, _, j, _, rfl, rfl, hL2, by omega, by omega, hsq, hat, fd', _, _, rfl, rfl, Eq.trans (upd_ne nfl) hF2, by rw [sizeLine_eq]; omega, ?_⟩
      refine ⟨_, L.eraseIdx j, Fo ++ [L[j]], rfl, by rw [upd_ne nfl.symm, upd_same], upd_same, ?_, by simp [hfl], (B2.other nbl nll).other nbf nlf, ((G'.trans O2.grow).new hlf).new hfd0⟩
      rw [List.append_assoc]
      exact ((erase_perm hat).append_left Fo).trans hp
    · rintro σ H' ⟨v, L, Fo, rfl, hL, hF, hp, hfl, B', G'⟩
      have hll : L = [] := by
        have := hp.length_eq
        rw [List.length_append] at this
        exact List.length_eq_zero_iff.mp (by omega)
      subst hll
      rw [List.append_nil] at hp
      exact ⟨_, rfl, k H' fd' Fo G' hfd0 hF hp B'⟩
end
end KW


set_option Elab.async false
set_option maxRecDepth 100000
/-! The law's drawing: a web. -/
namespace KW
open PySem PySem.Spec PyProof.Rows L2
theorem good_perm {n : Nat} {ps qs : List (Nat × Nat)} (h : qs.Perm ps) (g : Good n ps) : Good n qs := by
  obtain ⟨h1, h2, h3⟩ := g
  refine ⟨h1, fun p hp => h2 p (h.mem_iff.mp hp), fun r hr => ?_⟩
  obtain ⟨p, hp, e⟩ := h3 r hr
  exact ⟨p, h.mem_iff.mpr hp, e⟩
section
variable {P : Program} {w : World} {K : PySem.W.Frag} {mg : Str → Option Value} {base : Heap}
theorem scWeb : FnScope ["_law_bag_here", "_law_rooms_most", "_law_more_most", "_law_rooms", "_law_pairs", "_law_k", "_law_room"] ["_law_bag_here", "_law_rooms_most", "_law_more_most"] (defScope sWeb) := ⟨rfl, rfl, rfl, by decide +kernel, rfl, by decide +kernel, by decide +kernel⟩
theorem ok_web {f fP fM : Addr} {fd fdP fdM : FuncData} (F : Fun K "_law_web" "_law_web" sWeb f fd) (GP : FnOk P w K mg base CX0 1 fP fdP ["_law_bag_here", "_law_many_here"] spPull) (bP : Binds K fdP ["_law_bag_here", "_law_many_here"] []) (mP : mg "_law_pull" = some (.ref fP)) (kP : PySem.W.keepIn K (.ref fP) = true)
    (GM : FnOk P w K mg base CX0 2 fM fdM ["_law_bag_here", "_law_some"] (spMixed K)) (bM : Binds K fdM ["_law_bag_here", "_law_some"] []) (mM : mg "_law_mixed" = some (.ref fM)) (kM : PySem.W.keepIn K (.ref fM) = true)
    (mRange : mg "range" = none) (mTuple : mg "tuple" = none) : FnOk P w K mg base CX0 3 f fd ["_law_bag_here", "_law_rooms_most", "_law_more_most"] spWeb := by
  refine F.ok scWeb (fun vs H Q E h => ?_) (fun cdv A outer s H vs Q E hr h => ?_)
  · obtain ⟨b, l, ns, rm, mm, rfl, _⟩ := h
    rfl
  · obtain ⟨b, l, ns, rm, mm, rfl, B, hrm, hrm2, hmm, k⟩ := h
    have hr1 : Room 1 _ := hr.mono (by decide)
    refine ⟨_, pss_cons (ps_set (i := 3) scWeb.nd rfl (Or.inr rfl) (pe_op op_add pe_int (pe_call GP hr1 rfl mP kP bP .nil pass0 (pa_cons (pv 0) (pa_cons (pv 1) pa_nil)))))
      (pss_cons (ps_setLc (i := 4) (own := [("_law_room", 6)]) (g := gName 6) (tt := tYes) rfl scWeb.nd rfl rfl (sw_true rfl rfl rfl (by decide +kernel)) (pi_range1 (by rfl) mRange (pa_cons (pv 3) pa_nil))
          (blkOk_by (own := [("_law_room", 6)]) (N := ["_law_bag_here", "_law_rooms_most", "_law_more_most", "_law_rooms", "_law_pairs", "_law_k", "_law_room"]) (sc := defScope sWeb) (by decide +kernel))
          (fun _ _ _ _ _ => pg_name (i := 6) scWeb.nd rfl (Or.inl rfl)) (fun _ _ _ _ _ => pts_nil)
          (fun _ _ _ _ _ => pe_tup (pa_cons (pv 6) (pa_cons (pe_call GP hr1 rfl mP kP bP .nil pass0 (pa_cons (pv 0) (pa_cons (pv 3) pa_nil))) pa_nil))))
      (pss_cons (ps_for PassesOwn.never rfl (pi_range1 (by rfl) mRange (pa_cons (pe_call GP hr1 rfl mP kP bP .nil pass0 (pa_cons (pv 0) (pa_cons (pe_op op_add (pv 2) pe_int) pa_nil))) pa_nil)) (pg_name (i := 5) scWeb.nd rfl (Or.inl rfl))
        (pss_one (ps_expr (pe_bm PySem.F.plainAttrs_list PySem.F.slot_list_append PySem.F.type_list_append mt_append (pv 4) (pa_cons
          (pe_tup (pa_cons (pe_call GP hr1 rfl mP kP bP .nil pass0 (pa_cons (pv 0) (pa_cons (pv 3) pa_nil))) (pa_cons (pe_call GP hr1 rfl mP kP bP .nil pass0 (pa_cons (pv 0) (pa_cons (pv 3) pa_nil))) pa_nil))) pa_nil)))))
      (pss_one (ps_ret (pe_tup (pa_cons (pv 3) (pa_cons (pe_callTy call_tupleF (by rfl) mTuple (by decide +kernel) (pa_cons (pe_call GM hr rfl mM kM bM .nil pass0 (pa_cons (pv 0) (pa_cons (pv 4) pa_nil))) pa_nil)) pa_nil))))))), ?_⟩
    -- rooms
    refine ⟨_, rfl, _, rfl, b, l, ns, _, rfl, B, by omega, by omega, fun H1 r1 h0 h1 O1 B1 => ?_⟩
    obtain ⟨j, rfl⟩ := Int.eq_ofNat_of_zero_le h0
    obtain ⟨n, hn⟩ : ∃ n : Nat, n = 1 + j := ⟨_, rfl⟩
    have hnn : ((1 : Int) + (j : Int)) = (n : Int) := by omega
    refine ⟨_, _, rfl, rfl, ?_⟩
    dsimp only
    rw [hnn]
    -- pairs
    refine ⟨_, rfl, _, rfl, by omega, by omega, fun D hD => ?_⟩
    refine lc_range (lo := 0) (n := n) (fun i H' => ∃ (as : List V) (ps : List (Nat × Nat)), H' D = some (.lst as) ∧ PairsIn H' as ps ∧ ps.map (·.1) = List.range i ∧ (∀ p ∈ ps, p.1 < n ∧ p.2 < n) ∧ BagAt b l ns H' ∧ Grow b H1 H')
      ⟨[], [], upd_same, .nil, rfl, fun p hp => absurd hp (by simp), B1.new hD, (Grow.refl b H1).new hD⟩ ?_ ?_
    · rintro i H' hi ⟨as, ps, hA, hP, hps, hb, B', G'⟩
      refine ⟨rfl, _, rfl, _, rfl, _, rfl, b, l, ns, _, rfl, B', by omega, by omega, fun H2 r h0 h1 O2 B2 => ⟨by show 2 ≤ sizeLine; decide, fun T hT => ?_⟩⟩
      obtain ⟨m, rfl⟩ := Int.eq_ofNat_of_zero_le h0
      have nbD : b ≠ D := B1.nb hD
      have nlD : l ≠ D := B1.nl hD
      have hA2 : H2 D = some (.lst as) := by rw [O2 D nbD.symm]; exact hA
      have nDT : D ≠ T := ne_of_none hA2 hT
      obtain ⟨xs, hbl⟩ := B'.list
      have hlen : as.length = i := by
        rw [Paired.length hP, ← List.length_map (f := (·.1)), hps, List.length_range]
      refine ⟨as, Eq.trans (upd_ne nDT) hA2, by rw [sizeLine_eq]; omega, as ++ [.ref T], ps ++ [(i, m)], upd_same, ?_, ?_, ?_, (B2.new hT).other nbD nlD, ?_⟩
      · have k1 : Kp H' (upd (upd H2 T (.tup [.int (0 + (i : Nat)), .int (m : Nat)])) D (.lst (as ++ [.ref T]))) := ((Kp.off hbl O2).trans (Kp.new hT)).trans (Kp.put (Eq.trans (upd_ne nDT) hA2))
        refine paired_snoc (PairsIn.kp k1 hP) ⟨T, rfl, ?_⟩
        rw [upd_ne nDT.symm, upd_same]
        show some (HO.tup [.int (0 + (i : Int)), .int (m : Int)]) = some (HO.tup [.int (i : Int), .int (m : Int)])
        rw [Int.zero_add]
      · rw [List.map_append, hps, List.range_succ]
        rfl
      · intro p hp
        rcases List.mem_append.mp hp with q | q
        · exact hb p q
        · have e : p = (i, m) := by simpa using q
          subst e
          exact ⟨hi, by omega⟩
      · intro a o na e
        have nT : H1 T = none := by
          cases q : H1 T with
          | none => rfl
          | some u =>
            have nTb : T ≠ b := fun z => by
              obtain ⟨ys, hy⟩ := B2.list
              rw [z, hy] at hT
              cases hT
            have := O2.grow T u nTb (G' T u nTb q)
            rw [this] at hT
            cases hT
        rw [upd_ne (ne_of_none e hD), upd_ne (ne_of_none e nT)]
        exact O2.grow a o na (G' a o na e)
    · rintro H2 ⟨as, ps, hA, hP, hps, hb, B2, G2⟩
      have hbD : H1 D = none := hD
      have nbD : b ≠ D := B1.nb hD
      have nlD : l ≠ D := B1.nl hD
      have hpl : ps.length = n := by rw [← List.length_map (f := (·.1)), hps, List.length_range]
      refine ⟨_, rfl, _, rfl, _, _, rfl, rfl, b, l, ns, _, rfl, B2, by omega, by omega, fun H3 r3 h0 h3 O3 B3 => ?_⟩
      obtain ⟨m, rfl⟩ := Int.eq_ofNat_of_zero_le h0
      obtain ⟨x2, hx2⟩ := B2.list
      have hA3 : H3 D = some (.lst as) := by rw [O3 D nbD.symm]; exact hA
      refine ⟨_, rfl, by omega, by omega, for_range (lo := 0) (n := m) (fun i σ H' => ∃ (v : Option V) (as : List V) (ps : List (Nat × Nat)), σ = [some (.ref b), some (.int rm), some (.int mm), some (.int n), some (.ref D), v, none] ∧ H' D = some (.lst as) ∧ PairsIn H' as ps ∧ Good n ps ∧ ps.length ≤ n + i ∧ BagAt b l ns H' ∧ Grow b H1 H')
        ⟨none, as, ps, rfl, hA3, PairsIn.kp (Kp.off hx2 O3) hP, ⟨by omega, hb, fun r hr' => ?_⟩, by omega, B3, G2.trans O3.grow⟩ ?_ ?_⟩
      · have hm : r ∈ ps.map (·.1) := by rw [hps]; exact List.mem_range.mpr hr'
        obtain ⟨p, hp, e⟩ := List.mem_map.mp hm
        exact ⟨p, hp, e⟩
      · rintro i σ H' hi ⟨v, as, ps, rfl, hA, hP, hG, hl, B', G'⟩
        refine ⟨_, rfl, .inl ⟨rfl, _, SqL.of hA⟩, _, rfl, _, rfl, b, l, ns, _, rfl, B', by omega, by omega, fun H4 r4 h04 h4 O4 B4 => ?_⟩
        refine ⟨_, rfl, _, rfl, b, l, ns, _, rfl, B4, by omega, by omega, fun H5 r5 h05 h5 O5 B5 => ⟨by show 2 ≤ sizeLine; decide, fun T hT => ?_⟩⟩
        obtain ⟨u, rfl⟩ := Int.eq_ofNat_of_zero_le h04
        obtain ⟨v5, rfl⟩ := Int.eq_ofNat_of_zero_le h05
        have hA5 : H5 D = some (.lst as) := by rw [O5 D nbD.symm, O4 D nbD.symm]; exact hA
        have nDT : D ≠ T := ne_of_none hA5 hT
        obtain ⟨x4, hx4⟩ := B'.list
        obtain ⟨x5, hx5⟩ := B4.list
        have hlen : as.length = ps.length := Paired.length hP
        have k1 : Kp H' (upd (upd H5 T (.tup [.int (u : Nat), .int (v5 : Nat)])) D (.lst (as ++ [.ref T]))) := (((Kp.off hx4 O4).trans (Kp.off hx5 O5)).trans (Kp.new hT)).trans (Kp.put (Eq.trans (upd_ne nDT) hA5))
        refine ⟨D, as, _, rfl, rfl, Eq.trans (upd_ne nDT) hA5, by rw [sizeLine_eq]; omega, ?_⟩
        refine ⟨_, as ++ [.ref T], ps ++ [(u, v5)], rfl, upd_same, paired_snoc (PairsIn.kp k1 hP) ⟨T, rfl, by rw [upd_ne nDT.symm, upd_same]⟩, ⟨hG.1, ?_, fun r hr' => ?_⟩, by rw [List.length_append, List.length_singleton]; omega, (B5.new hT).other nbD nlD, ?_⟩
        · intro p hp
          rcases List.mem_append.mp hp with q | q
          · exact hG.2.1 p q
          · have e : p = (u, v5) := by simpa using q
            subst e
            exact ⟨by omega, by omega⟩
        · obtain ⟨p, hp, e⟩ := hG.2.2 r hr'
          exact ⟨p, List.mem_append_left _ hp, e⟩
        · intro a o na e
          have e5 : H5 a = some o := O5.grow a o na (O4.grow a o na (G' a o na e))
          rw [upd_ne (ne_of_none e hbD), upd_ne (ne_of_none e5 hT)]
          exact e5
      · rintro σ H' ⟨v, as, ps, rfl, hA, hP, hG, hl, B', G'⟩
        have hlen : as.length = ps.length := Paired.length hP
        refine ⟨_, rfl, _, rfl, _, rfl, b, l, D, ns, as, rfl, B', SqL.of hA, by omega, fun H6 p6 ys G6 n6 h6 hperm B6 => ?_⟩
        refine ⟨p6, ys, rfl, SqL.of h6, fun q oq hq hdq => ⟨by show 2 ≤ sizeLine; decide, fun t ht => ?_⟩⟩
        obtain ⟨x6, hx6⟩ := B'.list
        obtain ⟨qs, hq1, hq2⟩ := paired_perm hperm (PairsIn.kp (Kp.grow hx6 G6) hP)
        have nqt : q ≠ t := fun e => by
          rw [← e, upd_same] at ht
          cases ht
        have ht6 : H6 t = none := by
          rw [upd_ne nqt.symm] at ht
          exact ht
        refine k _ t n qs ?_ ⟨q, ys, upd_same, ⟨oq, by rw [upd_ne nqt, upd_same], hdq⟩, PairsIn.kp ((Kp.new hq).trans (Kp.new ht)) hq1, good_perm hq2 hG⟩ (by omega) (by rw [hq2.length_eq]; omega) ((B6.new hq).new ht)
        intro a o na e
        have e6 : H6 a = some o := G6 a o na (G' a o na (O1.grow a o na e))
        rw [upd_ne (ne_of_none e6 ht6), upd_ne (ne_of_none e6 hq)]
        exact e6
end
end KW


set_option Elab.async false
set_option maxRecDepth 100000
/-! The program's webs: is_pair, pairs_of, gathered. -/
namespace KW
open PySem PySem.Spec PyProof.Rows L2
abbrev sIsPair : Stmt := topS 37
abbrev sPairsOf : Stmt := topS 38
abbrev sGathered : Stmt := topS 39
theorem IsR.kp {H H' : Hp} {v : V} {l : List Nat} (k : Kp H H') (h : IsR H v l) : IsR H' v l := by
  obtain ⟨a, e, h⟩ := h
  exact ⟨a, e, k.t h⟩
theorem RowsIn.kp {H H' : Hp} (k : Kp H H') : ∀ {vs : List V} {ls : List (List Nat)}, RowsIn H vs ls → RowsIn H' vs ls
  | _, _, .nil => .nil
  | _, _, .cons a r => .cons (a.kp k) (RowsIn.kp k r)
theorem Same.kp {H H' : Hp} (s : Same H H') : Kp H H' := fun a o _ h => s a o h
theorem same_new {H H1 : Hp} (s : Same H H1) {p : Addr} {o : HO} (n : H1 p = none) : Same H (upd H1 p o) := fun a u h => by
  rw [upd_ne (ne_of_none (s a u h) n)]
  exact s a u h
theorem same_put {H H1 : Hp} (s : Same H H1) {p : Addr} {o : HO} (n : H p = none) : Same H (upd H1 p o) := fun a u h => by
  rw [upd_ne (ne_of_none h n)]
  exact s a u h
theorem paired_at {α β : Type} {R : α → β → Prop} : ∀ {as : List α} {bs : List β} {i : Nat} {a : α}, Paired R as bs → as[i]? = some a → ∃ b, bs[i]? = some b ∧ R a b
  | _, _, _, _, .nil, h => by simp at h
  | _, _, 0, _, .cons x r, h => by
    simp at h
    subst h
    exact ⟨_, rfl, x⟩
  | _, _, i + 1, a, .cons x r, h => by
    obtain ⟨b, h1, h2⟩ := paired_at (i := i) (a := a) r (by simpa using h)
    exact ⟨b, by simpa using h1, h2⟩
/-! ### promises -/
def spIsPair (K : PySem.W.Frag) : Sp := fun vs H Q _ => ∃ (a : Addr) (n x y : Nat), vs = [.ref a, .int n] ∧ (SqL K H a [.int x, .int y] ∨ SqT K H a [.int x, .int y]) ∧ x < n ∧ y < n ∧ Q (.bl true) H
def PairL (K : PySem.W.Frag) (H : Hp) (v : V) (p : Nat × Nat) : Prop := ∃ a, v = .ref a ∧ (SqL K H a [.int p.1, .int p.2] ∨ SqT K H a [.int p.1, .int p.2])
def spPairsOf (K : PySem.W.Frag) : Sp := fun vs H Q _ => ∃ (a : Addr) (n : Nat) (as : List V) (ps : List (Nat × Nat)), vs = [.int n, .ref a] ∧ SqL K H a as ∧ Paired (PairL K H) as ps ∧ (∀ p ∈ ps, p.1 < n ∧ p.2 < n) ∧ ps.length ≤ 400 ∧
  ∀ (H' : Hp) (q : Addr) (bs : List V), Same H H' → FzT H' q bs → PairsIn H' bs ps → Q (.ref q) H'
def spGathered (K : PySem.W.Frag) : Sp := fun vs H Q _ => ∃ (a : Addr) (n : Nat) (ps : List Nat), vs = [.int n, .ref a] ∧ SqL K H a (nums ps) ∧ (∀ p ∈ ps, p < n) ∧ n ≤ 1000 ∧ ps.length ≤ 1000 ∧
  ∀ (H' : Hp) (q : Addr) (bs : List V), Same H H' → H' q = some (.tup bs) → RowsIn H' bs (gat n ps) → Q (.ref q) H'
theorem PairL.same {K : PySem.W.Frag} {H H' : Hp} {v : V} {p : Nat × Nat} (s : Same H H') (h : PairL K H v p) : PairL K H' v p := by
  obtain ⟨a, e, h⟩ := h
  refine ⟨a, e, ?_⟩
  rcases h with h | h
  · exact .inl (s.seq h)
  · rcases h with (h | ⟨o, h⟩) | h
    · exact .inr (.inl (.inl (s _ _ h)))
    · exact .inr (.inl (.inr ⟨o, s _ _ h⟩))
    · exact .inr (.inr h)
section
variable {P : Program} {w : World} {K : PySem.W.Frag} {mg : Str → Option Value} {base : Heap}
theorem scIsPair : FnScope ["thing", "rooms"] ["thing", "rooms"] (defScope sIsPair) := ⟨rfl, rfl, rfl, by decide +kernel, rfl, by decide +kernel, by decide +kernel⟩
theorem ok_is_pair {f : Addr} {fd : FuncData} (F : Fun K "is_pair" "is_pair" sIsPair f fd) (mLen : mg "len" = none) : FnOk P w K mg base CX0 1 f fd ["thing", "rooms"] (spIsPair K) := by
  refine F.ok scIsPair (fun vs H Q E h => ?_) (fun cdv A outer s H vs Q E hr h => ?_)
  · obtain ⟨a, n, x, y, rfl, _⟩ := h
    rfl
  · obtain ⟨a, n, x, y, rfl, hS, hx, hy, k⟩ := h
    refine ⟨_, pss_one (ps_ret (pe_and (pe_cmpR op_eq (pe_callB call_len_seq (by rfl) mLen PySem.boot_len (pa_cons (pv 0) pa_nil)) pe_int (nomark _))
      (pe_and (pe_chain op_le op_lt pe_int (pe_ix ix_seq (pv 0) pe_int (fun _ _ => rfl)) (pv 1))
        (pe_one (pe_chain op_le op_lt pe_int (pe_ix ix_seq (pv 0) pe_int (fun _ _ => rfl)) (pv 1)))))), ?_⟩
    have d1 : decide ((0 : Int) ≤ (x : Int)) = true := decide_eq_true (by omega)
    have d2 : decide ((0 : Int) ≤ (y : Int)) = true := decide_eq_true (by omega)
    have d3 : decide ((x : Int) < (n : Int)) = true := decide_eq_true (by omega)
    have d4 : decide ((y : Int) < (n : Int)) = true := decide_eq_true (by omega)
    have i0 : ∀ {Q' : VK}, Q' (.int (x : Int)) H → rIx K (.ref a) (.int 0) H Q' := fun {Q'} q => by
      rcases hS with h | h
      · exact .inl ⟨a, _, 0, _, rfl, rfl, h, rfl, q⟩
      · exact .inr (.inl ⟨a, _, 0, _, rfl, rfl, h, rfl, q⟩)
    have i1 : ∀ {Q' : VK}, Q' (.int (y : Int)) H → rIx K (.ref a) (.int 1) H Q' := fun {Q'} q => by
      rcases hS with h | h
      · exact .inl ⟨a, _, 1, _, rfl, rfl, h, rfl, q⟩
      · exact .inr (.inl ⟨a, _, 1, _, rfl, rfl, h, rfl, q⟩)
    refine ⟨_, rfl, a, _, rfl, hS, rfl, true, rfl, iteT ?_⟩
    refine ⟨_, rfl, i0 ⟨_, _, rfl, rfl, true, congrArg V.bl d1, iteT ⟨_, rfl, _, _, rfl, rfl, true, congrArg V.bl d3, iteT ?_⟩⟩⟩
    refine ⟨_, rfl, i1 ⟨_, _, rfl, rfl, true, congrArg V.bl d2, iteT ⟨_, rfl, _, _, rfl, rfl, ?_⟩⟩⟩
    dsimp only
    rw [d4]
    exact k
theorem scPairsOf : FnScope ["rooms", "arrows", "pairs", "at", "thing"] ["rooms", "arrows"] (defScope sPairsOf) := ⟨rfl, rfl, rfl, by decide +kernel, rfl, by decide +kernel, by decide +kernel⟩
theorem ok_pairs_of {f fI : Addr} {fd fdI : FuncData} {t4 : Tok} (F : Fun K "pairs_of" "pairs_of" sPairsOf f fd) (GI : FnOk P w K mg base CX0 1 fI fdI ["thing", "rooms"] (spIsPair K)) (bI : Binds K fdI ["thing", "rooms"] []) (mI : mg "is_pair" = some (.ref fI)) (kI : PySem.W.keepIn K (.ref fI) = true)
    (mEnum : mg "enumerate" = none) (mTuple : mg "tuple" = none) (m4 : mg "MOST_ARROWS" = some (.int 400 t4)) : FnOk P w K mg base CX0 2 f fd ["rooms", "arrows"] (spPairsOf K) := by
  refine F.ok scPairsOf (fun vs H Q E h => ?_) (fun cdv A outer s H vs Q E hr h => ?_)
  · obtain ⟨a, n, as, ps, rfl, _⟩ := h
    rfl
  · obtain ⟨a, n, as, ps, rfl, hS, hA, hb, hl, k⟩ := h
    have hlen : as.length = ps.length := Paired.length hA
    refine ⟨_, pss_cons (ps_set (i := 2) scPairsOf.nd rfl (Or.inl rfl) (pe_lst pa_nil))
      (pss_cons (ps_for PassesOwn.never rfl (pi_enum (by rfl) mEnum (pa_cons (pv 1) pa_nil)) (pg_tup rfl (pgs_cons (pg_name (i := 3) scPairsOf.nd rfl (Or.inl rfl)) (pgs_cons (pg_name (i := 4) scPairsOf.nd rfl (Or.inl rfl)) pgs_nil)))
        (pss_cons (ps_if (PW.pt (pw_or (pt_cmpR op_ge (pv 3) (pe_glob (v := .int 400) rfl m4 ⟨_, rfl⟩) (nomark _)) (pw_or1 (pt_not (pt_val (pe_call GI hr rfl mI kI bI .nil pass0 (pa_cons (pv 4) (pa_cons (pv 0) pa_nil)))))))) (pss_never) pss_nil)
          (pss_one (ps_expr (pe_bm PySem.F.plainAttrs_list PySem.F.slot_list_append PySem.F.type_list_append mt_append (pv 2) (pa_cons
            (pe_tup (pa_cons (pe_ix ix_seq (pv 4) pe_int (fun _ _ => rfl)) (pa_cons (pe_ix ix_seq (pv 4) pe_int (fun _ _ => rfl)) pa_nil))) pa_nil))))))
      (pss_one (ps_ret (pe_callTy call_tupleF (by rfl) mTuple (by decide +kernel) (pa_cons (pv 2) pa_nil))))), ?_⟩
    refine ⟨Nat.zero_le _, fun D hD => ?_⟩
    have S1 : Same H (upd H D (.lst [])) := same_new (Same.refl H) hD
    refine ⟨_, rfl, a, as, rfl, S1.seq hS, for_it (walk_enum (K := K) (a := a) (xs := as)) (fun i σ H' => ∃ (v1 v2 : Option V) (bs : List V), σ = [some (.int n), some (.ref a), some (.ref D), v1, v2] ∧ H' D = some (.lst bs) ∧ PairsIn H' bs (ps.take i) ∧ Same H H')
      ⟨none, none, [], rfl, upd_same, .nil, S1⟩ (fun i σ H' _ ⟨_, _, _, _, _, _, s'⟩ => s'.seq hS) ?_ ?_⟩
    · rintro i x σ H' H2 hi ⟨v1, v2, bs, rfl, hB, hP, s'⟩ ⟨T, x1, x2, rfl, hT, rfl, e1, e2⟩
      have e1 : V.int (i : Nat) = x1 := Option.some.inj e1
      subst e1
      obtain ⟨p, hp, ⟨c, rfl, hc⟩⟩ := paired_at hA e2
      have hpm : p ∈ ps := List.mem_of_getElem? hp
      have s2 : Same H (upd H' T (.tup [.int (i : Nat), .ref c])) := same_new s' hT
      have hc2 : SqL K (upd H' T (.tup [.int (i : Nat), .ref c])) c [.int p.1, .int p.2] ∨ SqT K (upd H' T (.tup [.int (i : Nat), .ref c])) c [.int p.1, .int p.2] := by
        obtain ⟨c', e, h⟩ := PairL.same s2 ⟨c, rfl, hc⟩
        cases e
        exact h
      have hB2 : upd H' T (.tup [.int (i : Nat), .ref c]) D = some (.lst bs) := by rw [upd_ne (ne_of_none hB hT)]; exact hB
      refine ⟨T, _, rfl, SqT.of upd_same, rfl, _, _, rfl, _, _, rfl, rfl, ?_⟩
      have d1 : decide ((400 : Int) ≤ ((i : Nat) : Int)) = false := decide_eq_false (by omega)
      refine ⟨_, rfl, _, _, rfl, rfl, false, congrArg V.bl d1, ?_⟩
      refine iteF ?_
      refine ⟨_, rfl, _, rfl, c, n, p.1, p.2, rfl, hc2, (hb p hpm).1, (hb p hpm).2, true, rfl, iteF ?_⟩
      generalize hH3 : upd H' T (.tup [.int (i : Nat), .ref c]) = H3 at s2 hc2 hB2
      have i0 : ∀ {Q' : VK}, Q' (.int (p.1 : Int)) H3 → rIx K (.ref c) (.int 0) H3 Q' := fun {Q'} q => by
        rcases hc2 with h | h
        · exact .inl ⟨c, _, 0, _, rfl, rfl, h, rfl, q⟩
        · exact .inr (.inl ⟨c, _, 0, _, rfl, rfl, h, rfl, q⟩)
      have i1 : ∀ {Q' : VK}, Q' (.int (p.2 : Int)) H3 → rIx K (.ref c) (.int 1) H3 Q' := fun {Q'} q => by
        rcases hc2 with h | h
        · exact .inl ⟨c, _, 1, _, rfl, rfl, h, rfl, q⟩
        · exact .inr (.inl ⟨c, _, 1, _, rfl, rfl, h, rfl, q⟩)
      have hP3 : PairsIn H3 bs (ps.take i) := by
        rw [← hH3]
        exact PairsIn.kp (Kp.new hT) hP
      refine ⟨_, rfl, .inl ⟨rfl, _, SqL.of hB2⟩, _, rfl, i0 ⟨_, rfl, i1 ⟨by show 2 ≤ sizeLine; decide, fun U hU => ?_⟩⟩⟩
      have nDU : D ≠ U := ne_of_none hB2 hU
      have hbl : bs.length ≤ 400 := by
        rw [Paired.length hP3]
        exact Nat.le_trans (List.length_take_le' _ _) hl
      refine ⟨D, bs, _, rfl, rfl, Eq.trans (upd_ne nDU) hB2, by rw [sizeLine_eq]; omega, ?_⟩
      refine ⟨_, _, bs ++ [.ref U], rfl, upd_same, ?_, same_put (same_new s2 hU) hD⟩
      have et : ps.take (i + 1) = ps.take i ++ [p] := by
        rw [List.take_succ, hp]
        rfl
      rw [et]
      refine paired_snoc (PairsIn.kp ((Kp.new hU).trans (Kp.put (Eq.trans (upd_ne nDU) hB2))) hP3) ⟨U, rfl, ?_⟩
      rw [upd_ne nDU.symm, upd_same]
    · rintro σ H' ⟨v1, v2, bs, rfl, hB, hP, s'⟩
      rw [hlen, List.take_length] at hP
      exact ⟨_, rfl, D, bs, rfl, SqL.of hB, fun q o hq hd => k _ q bs (same_new s' hq) ⟨o, upd_same, hd⟩ (PairsIn.kp (Kp.new hq) hP)⟩
end
end KW


set_option Elab.async false
set_option maxRecDepth 100000
/-! The program's webs: gathered. -/
namespace KW
open PySem PySem.Spec PyProof.Rows L2
theorem get_ref {fs : List Addr} {r : Nat} (h : r < fs.length) : (fs.map V.ref)[r]? = some (.ref fs[r]) := by
  rw [List.getElem?_map, List.getElem?_eq_getElem h]
  rfl
theorem nodup_snoc {α : Type} {l : List α} {a : α} (h : l.Nodup) (n : a ∉ l) : (l ++ [a]).Nodup := by
  rw [List.nodup_append]
  refine ⟨h, by simp, fun x hx y hy => ?_⟩
  have e : y = a := by simpa using hy
  subst e
  exact fun z => n (z ▸ hx)
section
variable {P : Program} {w : World} {K : PySem.W.Frag} {mg : Str → Option Value} {base : Heap}
abbrev nGathered : List Str := ["rooms", "places", "room", "found", "arrow", "arrows"]
theorem scGathered : FnScope nGathered ["rooms", "places"] (defScope sGathered) := ⟨rfl, rfl, rfl, by decide +kernel, rfl, by decide +kernel, by decide +kernel⟩
theorem ok_gathered {f : Addr} {fd : FuncData} (F : Fun K "gathered" "gathered" sGathered f fd) (mRange : mg "range" = none) (mEnum : mg "enumerate" = none) (mTuple : mg "tuple" = none) : FnOk P w K mg base CX0 1 f fd ["rooms", "places"] (spGathered K) := by
  refine F.ok scGathered (fun vs H Q E h => ?_) (fun cdv A outer s H vs Q E hr h => ?_)
  · obtain ⟨a, n, ps, rfl, _⟩ := h
    rfl
  · obtain ⟨a, n, ps, rfl, hS, hb, hn, hl, k⟩ := h
    refine ⟨_, pss_cons (ps_setLc (i := 3) (own := [("room", 2)]) (g := gName 2) (tt := tYes) rfl scGathered.nd rfl rfl (sw_true rfl rfl rfl (by decide +kernel)) (pi_range1 (by rfl) mRange (pa_cons (pv 0) pa_nil))
          (blkOk_by (own := [("room", 2)]) (N := nGathered) (sc := defScope sGathered) (by decide +kernel)) (fun _ _ _ _ _ => pg_name (i := 2) scGathered.nd rfl (Or.inl rfl)) (fun _ _ _ _ _ => pts_nil) (fun _ _ _ _ _ => pe_lst pa_nil))
      (pss_cons (ps_for PassesOwn.never rfl (pi_enum (by rfl) mEnum (pa_cons (pv 1) pa_nil)) (pg_tup rfl (pgs_cons (pg_name (i := 4) scGathered.nd rfl (Or.inl rfl)) (pgs_cons (pg_name (i := 2) scGathered.nd rfl (Or.inl rfl)) pgs_nil)))
        (pss_one (ps_expr (pe_bm PySem.F.plainAttrs_list PySem.F.slot_list_append PySem.F.type_list_append mt_append (pe_ix ix_list (pv 3) (pv 2) (fun _ _ => rfl)) (pa_cons (pv 4) pa_nil)))))
      (pss_one (ps_ret (pe_callTy call_tuple_of (by rfl) mTuple (by decide +kernel) (pa_cons (pe_lc (own := [("arrows", 5)]) (g := gName 5) (tt := tYes) rfl scGathered.nd (pi_list (pv 3))
          (blkOk_by (own := [("arrows", 5)]) (N := nGathered) (sc := defScope sGathered) (by decide +kernel)) (fun _ _ _ _ _ => pg_name (i := 5) scGathered.nd rfl (Or.inl rfl)) (fun _ _ _ _ _ => pts_nil)
          (fun _ _ _ _ _ => pe_callTy (call_tupleK (K := K) rfl) (by rfl) mTuple boot_tuple' (pa_cons (pv 5) pa_nil))) pa_nil))))), ?_⟩
    refine ⟨_, rfl, _, rfl, by omega, by omega, fun D hD => ?_⟩
    refine lc_range (lo := 0) (n := n) (fun i H' => ∃ fs : List Addr, H' D = some (.lst (fs.map V.ref)) ∧ fs.length = i ∧ fs.Nodup ∧ (∀ c ∈ fs, H c = none ∧ c ≠ D ∧ H' c = some (.lst [])) ∧ Same H H')
      ⟨[], upd_same, rfl, List.nodup_nil, fun c hc => absurd hc (by simp), same_new (Same.refl H) hD⟩ ?_ ?_
    · rintro i H' hi ⟨fs, hF, hfl, hnd, hf, s'⟩
      refine ⟨rfl, Nat.zero_le _, fun p hp => ?_⟩
      have nDp : D ≠ p := ne_of_none hF hp
      refine ⟨_, Eq.trans (upd_ne nDp) hF, by rw [sizeLine_eq, List.length_map]; omega, fs ++ [p], by rw [upd_same, List.map_append]; rfl, by rw [List.length_append, hfl]; rfl, ?_, ?_, same_put (same_new s' hp) hD⟩
      · refine nodup_snoc hnd fun z => ?_
        rw [(hf p z).2.2] at hp
        cases hp
      · intro c hc
        rcases List.mem_append.mp hc with q | q
        · obtain ⟨h1, h2, h3⟩ := hf c q
          exact ⟨h1, h2, by rw [upd_ne h2, upd_ne (ne_of_none h3 hp)]; exact h3⟩
        · have e : c = p := by simpa using q
          subst e
          exact ⟨s'.free hp, nDp.symm, by rw [upd_ne nDp.symm, upd_same]⟩
    · rintro H1 ⟨fs, hF, hfl, hnd, hf, s1⟩
      have fsN : ∀ r (h : r < fs.length), H fs[r] = none ∧ fs[r] ≠ D := fun r h => ⟨(hf _ (List.getElem_mem h)).1, (hf _ (List.getElem_mem h)).2.1⟩
      have pl : (nums ps).length = ps.length := by simp [nums]
      refine ⟨_, rfl, a, _, rfl, s1.seq hS, for_it (walk_enum (K := K) (a := a) (xs := nums ps)) (fun i σ H' => ∃ (v1 v2 : Option V), σ = [some (.int n), some (.ref a), v1, some (.ref D), v2, none] ∧ H' D = some (.lst (fs.map V.ref)) ∧ (∀ r (h : r < fs.length), H' fs[r] = some (.lst (nums (idxs (ps.take i) r 0)))) ∧ Same H H')
        ⟨none, none, rfl, hF, fun r h => (hf _ (List.getElem_mem h)).2.2, s1⟩ (fun i σ H' _ ⟨_, _, _, _, _, s'⟩ => s'.seq hS) ?_ ?_⟩
      · rintro i x σ H' H2 hi ⟨v1, v2, rfl, hF', hR, s'⟩ ⟨T, x1, x2, rfl, hT, rfl, e1, e2⟩
        have e1 : V.int (i : Nat) = x1 := Option.some.inj e1
        subst e1
        have hi' : i < ps.length := by omega
        have hp : ps[i]? = some ps[i] := List.getElem?_eq_getElem hi'
        have e2 : V.int (ps[i] : Nat) = x2 := by
          have q : (nums ps)[i]? = some x2 := e2
          unfold nums at q
          rw [List.getElem?_map, hp] at q
          exact Option.some.inj q
        subst e2
        generalize hr' : ps[i] = r at hp
        have hrn : r < fs.length := by
          rw [hfl, ← hr']
          exact hb _ (List.getElem_mem hi')
        have nT : ∀ {c : Addr} {o : HO}, H' c = some o → c ≠ T := fun h => ne_of_none h hT
        have hF2 : upd H' T (.tup [.int (i : Nat), .int (r : Nat)]) D = some (.lst (fs.map V.ref)) := by rw [upd_ne (nT hF')]; exact hF'
        have hR2 : ∀ q (h : q < fs.length), upd H' T (.tup [.int (i : Nat), .int (r : Nat)]) fs[q] = some (.lst (nums (idxs (ps.take i) q 0))) := fun q h => by rw [upd_ne (nT (hR q h))]; exact hR q h
        refine ⟨T, _, rfl, SqT.of upd_same, rfl, _, _, rfl, _, _, rfl, rfl, ?_⟩
        refine ⟨_, rfl, _, rfl, D, _, _, _, rfl, rfl, SqL.of hF2, atI_nat (get_ref hrn), .inl ⟨rfl, _, SqL.of (hR2 r hrn)⟩, _, rfl, fs[r], _, _, rfl, rfl, hR2 r hrn, ?_, ?_⟩
        · have := idxs_len r (ps.take i) 0
          have := List.length_take_le' i ps
          rw [sizeLine_eq]
          simp only [nums, List.length_map]
          omega
        · refine ⟨_, _, rfl, by rw [upd_ne (fsN r hrn).2.symm]; exact hF2, fun q h => ?_, same_put (same_new s' hT) (fsN r hrn).1⟩
          have et : ps.take (i + 1) = ps.take i ++ [r] := by
            rw [List.take_succ, hp]
            rfl
          have tl : (ps.take i).length = i := by rw [List.length_take]; omega
          rw [et, idxs_snoc, tl, Nat.zero_add]
          by_cases e : q = r
          · subst e
            rw [upd_same, if_pos rfl, nums_snoc]
          · have ne : fs[q] ≠ fs[r] := fun z => e ((List.getElem_inj hnd).mp z)
            rw [upd_ne ne, if_neg (fun z => e z.symm), List.append_nil]
            exact hR2 q h
      · rintro σ H' ⟨v1, v2, rfl, hF', hR, s'⟩
        rw [pl, List.take_length] at hR
        refine ⟨_, rfl, D, rfl, ⟨_, SqL.of hF'⟩, fun D2 hD2 => ?_⟩
        have nD2 : D ≠ D2 := ne_of_none hF' hD2
        refine lc_list (K := K) (a := D) (xs := fs.map V.ref) (fun i H2 => ∃ vs : List V, H2 D2 = some (.lst vs) ∧ RowsIn H2 vs ((gat n ps).take i) ∧ (∀ c o, H' c = some o → H2 c = some o))
          ⟨[], upd_same, .nil, fun c o h => by rw [upd_ne (ne_of_none h hD2)]; exact h⟩ (fun i H2 _ ⟨_, _, _, g⟩ => SqL.of (g D _ hF')) ?_ ?_
        · rintro i x H2 hx ⟨vs, hV, hRw, g⟩
          obtain ⟨hi, rfl⟩ : ∃ h : i < fs.length, x = .ref fs[i] := by
            have hlt := (List.getElem?_eq_some_iff.mp hx).1
            rw [List.length_map] at hlt
            rw [get_ref hlt] at hx
            exact ⟨hlt, (Option.some.inj hx).symm⟩
          refine ⟨rfl, _, rfl, fs[i], _, rfl, .inl ⟨SqL.of (g _ _ (hR i hi)), fun U hU => ?_⟩⟩
          have nU : D2 ≠ U := ne_of_none hV hU
          have vl : vs.length ≤ 1000 := by
            rw [Paired.length hRw]
            have := List.length_take_le' i (gat n ps)
            rw [gat_len] at this
            omega
          refine ⟨vs, Eq.trans (upd_ne nU) hV, by rw [sizeLine_eq]; omega, vs ++ [.ref U], upd_same, ?_, fun c o h => ?_⟩
          · have hgi : (gat n ps)[i]? = some (idxs ps i 0) := by
              unfold gat
              rw [List.getElem?_map, List.getElem?_range (by omega)]
              rfl
            have et : (gat n ps).take (i + 1) = (gat n ps).take i ++ [idxs ps i 0] := by
              rw [List.take_succ, hgi]
              rfl
            rw [et]
            refine paired_snoc (RowsIn.kp ((Kp.new hU).trans (Kp.put (Eq.trans (upd_ne nU) hV))) hRw) ⟨U, rfl, ?_⟩
            rw [upd_ne nU.symm, upd_same]
          · have h2 := g c o h
            rw [upd_ne (ne_of_none h hD2), upd_ne (ne_of_none h2 hU)]
            exact h2
        · rintro H2 ⟨vs, hV, hRw, g⟩
          rw [List.length_map, hfl] at hRw
          have et : (gat n ps).take n = gat n ps := List.take_of_length_le (by rw [gat_len]; exact Nat.le_refl _)
          rw [et] at hRw
          exact ⟨D2, vs, rfl, .inl ⟨SqL.of hV, fun q hq => k _ q vs (same_new (fun c o h => g c o (s' c o h)) hq) upd_same (RowsIn.kp (Kp.new hq) hRw)⟩⟩
end
end KW


set_option Elab.async false
set_option maxRecDepth 100000
/-! The program's webs: a Web is made. -/
namespace KW
open PySem PySem.Spec PyProof.Rows L2
abbrev sWebClass : Stmt := topS 40
abbrev sInit : Stmt := inClass sWebClass 0
abbrev sMade : Stmt := topS 51
structure WebC (K : PySem.W.Frag) (C : Addr) : Prop where
  cl : Cls K C
  nT : NoAttr K C "room_total"
  nP : NoAttr K C "pairs"
  nL : NoAttr K C "leaving"
  nE : NoAttr K C "entering"
def wf (n : Nat) (q lv en : Addr) : List (Str × V) := putF "entering" (.ref en) (putF "leaving" (.ref lv) (putF "pairs" (.ref q) (putF "room_total" (.int n) [])))
theorem wf_entering (n : Nat) (q lv en : Addr) : (wf n q lv en).lookup ("entering" : Str) = some (.ref en) := by
  unfold wf
  rw [lookup_putF, if_pos rfl]
theorem wf_leaving (n : Nat) (q lv en : Addr) : (wf n q lv en).lookup ("leaving" : Str) = some (.ref lv) := by
  unfold wf
  rw [lookup_putF, if_neg (by decide +kernel), lookup_putF, if_pos rfl]
theorem wf_pairs (n : Nat) (q lv en : Addr) : (wf n q lv en).lookup ("pairs" : Str) = some (.ref q) := by
  unfold wf
  rw [lookup_putF, if_neg (by decide +kernel), lookup_putF, if_neg (by decide +kernel), lookup_putF, if_pos rfl]
theorem wf_total (n : Nat) (q lv en : Addr) : (wf n q lv en).lookup ("room_total" : Str) = some (.int n) := by
  unfold wf
  rw [lookup_putF, if_neg (by decide +kernel), lookup_putF, if_neg (by decide +kernel), lookup_putF, if_neg (by decide +kernel), lookup_putF, if_pos rfl]
theorem wf_no (n : Nat) (q lv en : Addr) {m : Str} (h1 : ¬ m = "entering") (h2 : ¬ m = "leaving") (h3 : ¬ m = "pairs") (h4 : ¬ m = "room_total") : (wf n q lv en).lookup m = none := by
  unfold wf
  rw [lookup_putF, if_neg h1, lookup_putF, if_neg h2, lookup_putF, if_neg h3, lookup_putF, if_neg h4]
  rfl
/-- a web at x: n rooms, arrows ps -/
def WebAt (C : Addr) (H : Hp) (x : Addr) (n : Nat) (ps : List (Nat × Nat)) : Prop := ∃ (dx q lv en : Addr) (as ls es : List V), H x = some (.ins C dx (wf n q lv en)) ∧ FzT H q as ∧ PairsIn H as ps ∧
  H lv = some (.tup ls) ∧ RowsIn H ls (gat n (ps.map (·.1))) ∧ H en = some (.tup es) ∧ RowsIn H es (gat n (ps.map (·.2)))
theorem WebAt.to {C : Addr} {H H' : Hp} {x : Addr} {n : Nat} {ps : List (Nat × Nat)} (k : Kp H H') (hx : H' x = H x) (h : WebAt C H x n ps) : WebAt C H' x n ps := by
  obtain ⟨dx, q, lv, en, as, ls, es, h1, h2, h3, h4, h5, h6, h7⟩ := h
  exact ⟨dx, q, lv, en, as, ls, es, hx.trans h1, k.f h2, PairsIn.kp k h3, k.t h4, RowsIn.kp k h5, k.t h6, RowsIn.kp k h7⟩
theorem putF_lt {f : Str} {v : V} {fs : List (Str × V)} {k : Nat} (h : fs.length < k) : (putF f v fs).length < k + 1 := Nat.lt_of_le_of_lt (length_putF f v fs) (by omega)
def spInit (K : PySem.W.Frag) (C : Addr) : Sp := fun vs H Q _ => ∃ (x dx a : Addr) (n : Nat) (as : List V) (ps : List (Nat × Nat)), vs = [.ref x, .int n, .ref a] ∧ H x = some (.ins C dx []) ∧ SqL K H a as ∧ Paired (PairL K H) as ps ∧ Good n ps ∧ n ≤ 100 ∧ ps.length ≤ 400 ∧
  ∀ H' : Hp, WebAt C H' x n ps → (∀ b o, b ≠ x → H b = some o → H' b = some o) → Q .non H'
def spMade (C : Addr) : Sp := fun vs H Q _ => ∃ (t : Addr) (n : Nat) (ps : List (Nat × Nat)), vs = [.ref t] ∧ WebT H t n ps ∧ n ≤ 100 ∧ ps.length ≤ 400 ∧
  ∀ (H' : Hp) (x : Addr), WebAt C H' x n ps → Same H H' → H x = none → Q (.ref x) H'
theorem PairsIn.loose {K : PySem.W.Frag} {H : Hp} : ∀ {as : List V} {ps : List (Nat × Nat)}, PairsIn H as ps → Paired (PairL K H) as ps
  | _, _, .nil => .nil
  | _, _, .cons ⟨a, e, h⟩ r => .cons ⟨a, e, .inr (SqT.of h)⟩ (PairsIn.loose r)
theorem pairs_get {H : Hp} {as : List V} {ps : List (Nat × Nat)} {i : Nat} {x : V} (h : PairsIn H as ps) (e : as[i]? = some x) : ∃ (p : Nat × Nat) (a : Addr), ps[i]? = some p ∧ x = .ref a ∧ H a = some (.tup [.int p.1, .int p.2]) := by
  obtain ⟨p, h1, a, h2, h3⟩ := paired_at h e
  exact ⟨p, a, h1, h2, h3⟩
theorem take_snoc {α : Type} {l : List α} {i : Nat} {a : α} (h : l[i]? = some a) : l.take (i + 1) = l.take i ++ [a] := by
  rw [List.take_succ, h]
  rfl
section
variable {P : Program} {w : World} {K : PySem.W.Frag} {mg : Str → Option Value} {base : Heap}
abbrev nInit : List Str := ["self", "rooms", "arrows", "pairs", "leaving", "pair"]
theorem scInit : FnScope nInit ["self", "rooms", "arrows"] (defScope sInit) := ⟨rfl, rfl, rfl, by decide +kernel, rfl, by decide +kernel, by decide +kernel⟩
theorem ok_init {f fP fG C : Addr} {fd fdP fdG : FuncData} {t1 : Tok} (F : Fun K "__init__" "Web.__init__" sInit f fd) (T : WebC K C)
    (GP : FnOk P w K mg base CX0 2 fP fdP ["rooms", "arrows"] (spPairsOf K)) (bP : Binds K fdP ["rooms", "arrows"] []) (mP : mg "pairs_of" = some (.ref fP)) (kP : PySem.W.keepIn K (.ref fP) = true)
    (GG : FnOk P w K mg base CX0 1 fG fdG ["rooms", "places"] (spGathered K)) (bG : Binds K fdG ["rooms", "places"] []) (mG : mg "gathered" = some (.ref fG)) (kG : PySem.W.keepIn K (.ref fG) = true)
    (m1 : mg "MOST_ROOMS" = some (.int 100 t1)) : FnOk P w K mg base CX0 3 f fd ["self", "rooms", "arrows"] (spInit K C) := by
  refine F.ok scInit (fun vs H Q E h => ?_) (fun cdv A outer s H vs Q E hr h => ?_)
  · obtain ⟨x, dx, a, n, as, ps, rfl, _⟩ := h
    rfl
  · obtain ⟨x, dx, a, n, as, ps, rfl, hx, hS, hA, hG, hn, hl, k⟩ := h
    have hr1 : Room 1 _ := hr.mono (by decide)
    have hlen : as.length = ps.length := Paired.length hA
    refine ⟨_, pss_cons (ps_if (pt_not (pt_chain op_le op_le pe_int (pv 1) (pe_glob (v := .int 100) rfl m1 ⟨_, rfl⟩))) pss_never pss_nil)
      (pss_cons (ps_set (i := 3) scInit.nd rfl (Or.inl rfl) (pe_call GP hr rfl mP kP bP .nil pass0 (pa_cons (pv 1) (pa_cons (pv 2) pa_nil))))
      (pss_cons (ps_set (i := 4) scInit.nd rfl (Or.inl rfl) (pe_call GG hr1 rfl mG kG bG .nil pass0 (pa_cons (pv 1) (pa_cons
          (pe_lc (own := [("pair", 5)]) (g := gName 5) (tt := tYes) rfl scInit.nd (pi_tup (pv 3)) (blkOk_by (own := [("pair", 5)]) (N := nInit) (sc := defScope sInit) (by decide +kernel)) (fun _ _ _ _ _ => pg_name (i := 5) scInit.nd rfl (Or.inl rfl)) (fun _ _ _ _ _ => pts_nil)
            (fun _ _ _ _ _ => pe_ix (ix_tupK (K := K) rfl) (pv 5) pe_int (fun _ _ => rfl))) pa_nil))))
      (pss_cons (ps_if (pt_cmpR (op_inTD (hu65 hr)) (pe_tup pa_nil) (pv 4) (by rfl)) pss_never pss_nil)
      (pss_cons (ps_fld (pv 0) (pv 1) rfl) (pss_cons (ps_fld (pv 0) (pv 3) rfl) (pss_cons (ps_fld (pv 0) (pv 4) rfl)
      (pss_one (ps_fld (pv 0) (pe_call GG hr1 rfl mG kG bG .nil pass0 (pa_cons (pv 1) (pa_cons
          (pe_lc (own := [("pair", 5)]) (g := gName 5) (tt := tYes) rfl scInit.nd (pi_tup (pv 3)) (blkOk_by (own := [("pair", 5)]) (N := nInit) (sc := defScope sInit) (by decide +kernel)) (fun _ _ _ _ _ => pg_name (i := 5) scInit.nd rfl (Or.inl rfl)) (fun _ _ _ _ _ => pts_nil)
            (fun _ _ _ _ _ => pe_ix (ix_tupK (K := K) rfl) (pv 5) pe_int (fun _ _ => rfl))) pa_nil))) rfl)))))))), ?_⟩
    have d1 : decide ((1 : Int) ≤ (n : Int)) = true := decide_eq_true (by have := hG.1; omega)
    have d2 : decide ((n : Int) ≤ (100 : Int)) = true := decide_eq_true (by omega)
    refine ⟨_, rfl, _, _, rfl, rfl, true, congrArg V.bl d1, iteT ⟨_, _, rfl, rfl, true, congrArg V.bl d2, iteF ?_⟩⟩
    -- pairs
    refine ⟨_, rfl, _, rfl, a, n, as, ps, rfl, hS, hA, hG.2.1, hl, fun H1 q bs s1 hq hP1 => ?_⟩
    have hx1 : H1 x = some (.ins C dx []) := s1 _ _ hx
    have hbl : bs.length = ps.length := Paired.length hP1
    -- leaving
    refine ⟨_, rfl, _, rfl, q, rfl, ⟨_, hq.sq⟩, fun D hD => ?_⟩
    refine lc_tup (K := K) (a := q) (xs := bs) (fun i H' => H' D = some (.lst (nums ((ps.take i).map (·.1)))) ∧ Same H1 H')
      ⟨upd_same, same_new (Same.refl H1) hD⟩ (fun i H' _ ⟨_, s'⟩ => ((Same.kp s').f hq).sq) ?_ ?_
    · rintro i y H' hy ⟨hD', s'⟩
      obtain ⟨p, c, hp, rfl, hc⟩ := pairs_get hP1 hy
      refine ⟨rfl, _, rfl, c, _, _, _, rfl, rfl, SqT.of (s' _ _ hc), rfl, _, hD', ?_, ?_, same_put s' hD⟩
      · rw [sizeLine_eq]
        simp only [nums, List.length_map]
        have := List.length_take_le' i ps
        omega
      · rw [upd_same, take_snoc hp, List.map_append]
        exact congrArg (fun l => some (HO.lst l)) (nums_snoc _ _).symm
    · rintro H2 ⟨hD2, s2⟩
      rw [hbl, List.take_length] at hD2
      have hx2 : H2 x = some (.ins C dx []) := s2 _ _ hx1
      refine ⟨D, n, ps.map (·.1), rfl, SqL.of hD2, fun r hr' => ?_, by omega, by rw [List.length_map]; omega, fun H3 lv ls s3 hlv hR3 => ?_⟩
      · obtain ⟨p, hp, e⟩ := List.mem_map.mp hr'
        rw [← e]
        exact (hG.2.1 p hp).1
      -- () in leaving
      refine ⟨Nat.zero_le _, fun U hU => ?_⟩
      have s4 : Same H3 (upd H3 U (.tup [])) := same_new (Same.refl H3) hU
      have full : (gat n (ps.map (·.1))).any (·.isEmpty) = false := gat_full fun r hr' => by
        obtain ⟨p, hp, e⟩ := hG.2.2 r hr'
        exact List.mem_map.mpr ⟨p, hp, e⟩
      refine ⟨_, rfl, .tuple [], (gat n (ps.map (·.1))).map rowD, .tup (SqT.of upd_same) .nil, .tup (SqT.of (s4 _ _ hlv)) (dp_rows (RowsIn.kp (Same.kp s4) hR3)), nil_shaped, rows_shaped _, false, ?_, iteF ?_⟩
      · rw [nil_in, full]
      have t4 : Kp H1 (upd H3 U (.tup [])) := (Same.kp s2).trans ((Same.kp s3).trans (Same.kp s4))
      have hx4 : upd H3 U (.tup []) x = some (.ins C dx []) := s4 _ _ (s3 _ _ hx2)
      have hq4 : FzT (upd H3 U (.tup [])) q bs := t4.f hq
      have hP4 : PairsIn (upd H3 U (.tup [])) bs ps := PairsIn.kp t4 hP1
      have hlv4 : upd H3 U (.tup []) lv = some (.tup ls) := s4 _ _ hlv
      have hR4 : RowsIn (upd H3 U (.tup [])) ls (gat n (ps.map (·.1))) := RowsIn.kp (Same.kp s4) hR3
      have g4 : Same H (upd H3 U (.tup [])) := s1.trans (s2.trans (s3.trans s4))
      generalize upd H3 U (.tup []) = H4 at s4 t4 hx4 hq4 hP4 hlv4 hR4 g4
      -- the three fields
      have kx : ∀ {fs fs' : List (Str × V)} {Hh : Hp}, Hh x = some (.ins C dx fs) → Kp Hh (upd Hh x (.ins C dx fs')) := fun {fs fs' Hh} h c o f e => by
        rw [upd_ne (ne_of e h (by intro z; subst z; exact f))]
        exact e
      refine ⟨_, rfl, _, rfl, x, C, dx, [], rfl, hx4, T.cl, T.nT, (by show 0 < 1000; decide), ?_⟩
      refine ⟨_, rfl, _, rfl, x, C, dx, _, rfl, upd_same, T.cl, T.nP, Nat.lt_of_lt_of_le (putF_lt (k := 1) (by simp)) (by decide), ?_⟩
      refine ⟨_, rfl, _, rfl, x, C, dx, _, rfl, upd_same, T.cl, T.nL, Nat.lt_of_lt_of_le (putF_lt (putF_lt (k := 1) (by simp))) (by decide), ?_⟩
      rw [upd_upd, upd_upd]
      have k5 := kx (fs' := putF "leaving" (.ref lv) (putF "pairs" (.ref q) (putF "room_total" (.int n) []))) hx4
      have hx5 : upd H4 x (.ins C dx (putF "leaving" (.ref lv) (putF "pairs" (.ref q) (putF "room_total" (.int n) [])))) x = some (.ins C dx (putF "leaving" (.ref lv) (putF "pairs" (.ref q) (putF "room_total" (.int n) [])))) := upd_same
      have g5 : ∀ b o, b ≠ x → H b = some o → upd H4 x (.ins C dx (putF "leaving" (.ref lv) (putF "pairs" (.ref q) (putF "room_total" (.int n) [])))) b = some o := fun b o nb h => by
        rw [upd_ne nb]
        exact g4 b o h
      have hq5 := k5.f hq4
      have hP5 := PairsIn.kp k5 hP4
      have hlv5 := k5.t hlv4
      have hR5 := RowsIn.kp k5 hR4
      generalize upd H4 x (.ins C dx (putF "leaving" (.ref lv) (putF "pairs" (.ref q) (putF "room_total" (.int n) [])))) = H5 at k5 hx5 g5 hq5 hP5 hlv5 hR5
      -- entering
      refine ⟨_, rfl, _, rfl, q, rfl, ⟨_, hq5.sq⟩, fun D2 hD2' => ?_⟩
      refine lc_tup (K := K) (a := q) (xs := bs) (fun i H' => H' D2 = some (.lst (nums ((ps.take i).map (·.2)))) ∧ Same H5 H')
        ⟨upd_same, same_new (Same.refl H5) hD2'⟩ (fun i H' _ ⟨_, s'⟩ => ((Same.kp s').f hq5).sq) ?_ ?_
      · rintro i y H' hy ⟨hD', s'⟩
        obtain ⟨p, c, hp, rfl, hc⟩ := pairs_get hP5 hy
        refine ⟨rfl, _, rfl, c, _, _, _, rfl, rfl, SqT.of (s' _ _ hc), rfl, _, hD', ?_, ?_, same_put s' hD2'⟩
        · rw [sizeLine_eq]
          simp only [nums, List.length_map]
          have := List.length_take_le' i ps
          omega
        · rw [upd_same, take_snoc hp, List.map_append]
          exact congrArg (fun l => some (HO.lst l)) (nums_snoc _ _).symm
      · rintro H6 ⟨hD6, s6⟩
        rw [hbl, List.take_length] at hD6
        refine ⟨D2, n, ps.map (·.2), rfl, SqL.of hD6, fun r hr' => ?_, by omega, by rw [List.length_map]; omega, fun H7 en es s7 hen hR7 => ?_⟩
        · obtain ⟨p, hp, e⟩ := List.mem_map.mp hr'
          rw [← e]
          exact (hG.2.1 p hp).2
        have s57 : Same H5 H7 := s6.trans s7
        have hx7 := s57 _ _ hx5
        have kk := (Same.kp s57).trans (kx (fs' := wf n q lv en) hx7)
        refine ⟨_, rfl, x, C, dx, _, rfl, hx7, T.cl, T.nE, Nat.lt_of_lt_of_le (putF_lt (putF_lt (putF_lt (k := 1) (by simp)))) (by decide), ?_⟩
        refine k _ ⟨dx, q, lv, en, bs, ls, es, upd_same, kk.f hq5, PairsIn.kp kk hP5, kk.t hlv5, RowsIn.kp kk hR5, (kx hx7).t hen, RowsIn.kp (kx hx7) hR7⟩ fun b o nb h => ?_
        rw [upd_ne nb]
        exact s57 _ _ (g5 b o nb h)
theorem scMade : FnScope ["_law_w"] ["_law_w"] (defScope sMade) := ⟨rfl, rfl, rfl, by decide +kernel, rfl, by decide +kernel, by decide +kernel⟩
theorem ok_made {f fI C : Addr} {fd fdI : FuncData} (F : Fun K "_law_made" "_law_made" sMade f fd) (M : Mk K C fI) (GI : FnOk P w K mg base CX0 3 fI fdI ["self", "rooms", "arrows"] (spInit K C)) (bI : Binds K fdI ["self", "rooms", "arrows"] []) (mC : mg "Web" = some (.ref C))
    (mList : mg "list" = none) : FnOk P w K mg base CX0 5 f fd ["_law_w"] (spMade C) := by
  refine F.ok scMade (fun vs H Q E h => ?_) (fun cdv A outer s H vs Q E hr h => ?_)
  · obtain ⟨t, n, ps, rfl, _⟩ := h
    rfl
  · obtain ⟨t, n, ps, rfl, ⟨q, as, h1, h2, h3, h4⟩, hn, hl, k⟩ := h
    refine ⟨_, pss_one (ps_ret (pe_make M GI hr rfl mC bI .nil pass0 (pa_cons (pe_ix ix_tup (pv 0) pe_int (fun _ _ => rfl)) (pa_cons (pe_callTy call_list_of (by rfl) mList (by decide +kernel) (pa_cons (pe_ix ix_tup (pv 0) pe_int (fun _ _ => rfl)) pa_nil)) pa_nil)))), ?_⟩
    refine ⟨_, rfl, t, _, _, _, rfl, rfl, SqT.of h1, rfl, _, rfl, t, _, _, _, rfl, rfl, SqT.of h1, rfl, q, _, rfl, .inr h2.sq, fun l hl' => ?_⟩
    intro x dx nx ndx nex
    have s1 : Same H (upd H l (.lst as)) := same_new (Same.refl H) hl'
    have s2 : Same (upd H l (.lst as)) (upd (upd (upd H l (.lst as)) dx (.own x)) x (.ins C dx [])) := fun b o e => by
      rw [upd_ne (ne_of_none e nx), upd_ne (ne_of_none e ndx)]
      exact e
    have s3 := s1.trans s2
    refine ⟨x, dx, l, n, as, ps, rfl, upd_same, SqL.of (s2 _ _ upd_same), PairsIn.loose (PairsIn.kp (Same.kp s3) h3), h4, hn, hl, fun H' hW g => ⟨rfl, k H' x hW (fun b o e => ?_) (s1.free nx)⟩⟩
    have nbx : b ≠ x := ne_of_none (s1 _ _ e) nx
    exact g b o nbx (s3 _ _ e)
end
end KW


set_option Elab.async false
set_option maxRecDepth 100000
/-! The program's webs: what is asked of one. -/
namespace KW
open PySem PySem.Spec PyProof.Rows L2
abbrev sEq : Stmt := inClass sWebClass 1
abbrev sLen : Stmt := inClass sWebClass 2
abbrev sRepr : Stmt := inClass sWebClass 3
abbrev sRooms : Stmt := inClass sWebClass 4
abbrev sArrows : Stmt := inClass sWebClass 5
abbrev sBegin : Stmt := inClass sWebClass 6
abbrev sEnd : Stmt := inClass sWebClass 7
abbrev sOuts : Stmt := inClass sWebClass 8
abbrev sIns : Stmt := inClass sWebClass 9
abbrev sLeading : Stmt := inClass sWebClass 10
abbrev sHas : Stmt := inClass sWebClass 15
abbrev sNeedA : Stmt := inClass sWebClass 19
abbrev sNeedR : Stmt := inClass sWebClass 20
/-! ### data -/
def pD (p : Nat × Nat) : PyData := .tuple [.int p.1, .int p.2]
theorem pD_lay : ∀ ps : List (Nat × Nat), PyData.canLayAll0 (ps.map pD) = true
  | [] => by simp [PyData.canLayAll0]
  | p :: ps => by simp [PyData.canLayAll0, pD, PyData.canLay0, pD_lay ps]
theorem pD_plain : ∀ ps : List (Nat × Nat), PyData.plainAll (ps.map pD) = true
  | [] => by simp [PyData.plainAll]
  | p :: ps => by simp [PyData.plainAll, pD, PyData.plain, pD_plain ps]
theorem pD_depth : ∀ ps : List (Nat × Nat), PyData.depthAll (ps.map pD) ≤ 1
  | [] => by simp [PyData.depthAll]
  | p :: ps => by
    have h := pD_depth ps
    simp only [List.map_cons, PyData.depthAll, pD, PyData.depth]
    omega
theorem pDs_shaped (ps : List (Nat × Nat)) : SeqAt.shaped (.tuple (ps.map pD)) = true := by
  have h := pD_depth ps
  exact shaped_of (by simp only [PyData.canLay0]; exact pD_lay ps) (by simp only [PyData.depth]; omega)
theorem pD_eqv (p : Nat × Nat) (a b : Int) : PyData.eqv (pD p) (.tuple [.int a, .int b]) = (decide ((p.1 : Int) = a) && decide ((p.2 : Int) = b)) := by
  simp only [pD, PyData.eqv, PyData.eqvAll, Bool.and_true]
  rfl
theorem pDs_eqv : ∀ ps qs : List (Nat × Nat), PyData.eqvAll (ps.map pD) (qs.map pD) = decide (ps = qs)
  | [], [] => by simp [PyData.eqvAll]
  | [], q :: qs => by simp [PyData.eqvAll]
  | p :: ps, [] => by simp [PyData.eqvAll]
  | p :: ps, q :: qs => by
    have ih := pDs_eqv ps qs
    obtain ⟨a, b⟩ := p
    obtain ⟨c, d⟩ := q
    simp only [List.map_cons, PyData.eqvAll, ih]
    have e : PyData.eqv (pD (a, b)) (pD (c, d)) = (decide ((a : Int) = (c : Int)) && decide ((b : Int) = (d : Int))) := pD_eqv (a, b) c d
    rw [e]
    by_cases h1 : a = c
    · by_cases h2 : b = d
      · subst h1 h2
        simp
      · have h2' : ¬ ((b : Int) = (d : Int)) := by omega
        simp [h1, h2, h2']
    · have h1' : ¬ ((a : Int) = (c : Int)) := by omega
      simp [h1, h1']
theorem dp_pairs {K : PySem.W.Frag} {H : Hp} : ∀ {as : List V} {ps : List (Nat × Nat)}, PairsIn H as ps → DpAll K H as (ps.map pD)
  | _, _, .nil => .nil
  | _, _, .cons ⟨a, e, h⟩ r => by
    rw [e]
    exact .cons (.tup (SqT.of h) (.cons (.int _) (.cons (.int _) .nil))) (dp_pairs r)
def cnt (ps : List (Nat × Nat)) (a b : Nat) : Nat := (ps.map pD).countP fun z => PyData.eqv z (.tuple [.int a, .int b])
def numT (i : Nat) : Str := toString (i : Int)
theorem numT_len (i : Nat) (h : i ≤ 500) : (numT i).length ≤ 5 := by
  have all : ∀ j : Fin 501, (numT j.1).length ≤ 5 := by decide +kernel
  exact all ⟨i, by omega⟩
theorem small_log (i : Nat) (h : i ≤ 500) : ((i : Nat) : Int).natAbs.log2 < 1920 := by
  have e : ((i : Nat) : Int).natAbs = i := by omega
  rw [e]
  exact Nat.lt_of_le_of_lt (Nat.log2_le_self i) (by omega)
theorem str_len_append (a b : Str) : (a ++ b).length = a.length + b.length := by
  show (a.cps ++ b.cps).size = a.cps.size + b.cps.size
  rw [Array.size_append]
def webTxt (n m : Nat) : Str := Str.empty ++ "Web(" ++ numT n ++ " rooms, " ++ numT m ++ " arrows)"
/-! ### promises -/
structure WebQ (K : PySem.W.Frag) (C : Addr) : Prop where
  ha : PySem.W.findIn K (.ref C) "__class__" = some (some (.builtin "object.__class__"))
  hn : PySem.W.specialIn K (.builtin "object.__class__") "__get__" = some (some (.builtin "getset_descriptor.__get__"))
  ht : PySem.W.takesIn K (.builtin "object.__class__") = some true
  hm : PySem.W.mroIn K C (.type "object") = some true
  kO : PySem.W.kitOne K (.ref C) (.ref C) = some true
  kT : PySem.W.kitOne K (.type "tuple") (.ref C) = some false
def spHas (C : Addr) : Sp := fun vs H Q _ => ∃ (x : Addr) (n : Nat) (ps : List (Nat × Nat)) (i : Int), vs = [.ref x, .int i] ∧ WebAt C H x n ps ∧ Q (.bl (decide (0 ≤ i ∧ i < ps.length))) H
def spNeedA (C : Addr) : Sp := fun vs H Q _ => ∃ (x : Addr) (n : Nat) (ps : List (Nat × Nat)) (i : Nat), vs = [.ref x, .int i] ∧ WebAt C H x n ps ∧ i < ps.length ∧ Q .non H
def spNeedR (C : Addr) : Sp := fun vs H Q _ => ∃ (x : Addr) (n : Nat) (ps : List (Nat × Nat)) (i : Nat), vs = [.ref x, .int i] ∧ WebAt C H x n ps ∧ i < n ∧ Q .non H
def spRooms (C : Addr) : Sp := fun vs H Q _ => ∃ (x : Addr) (n : Nat) (ps : List (Nat × Nat)), vs = [.ref x] ∧ WebAt C H x n ps ∧ Q (.int n) H
def spLen (C : Addr) : Sp := fun vs H Q _ => ∃ (x : Addr) (n : Nat) (ps : List (Nat × Nat)), vs = [.ref x] ∧ WebAt C H x n ps ∧ Q (.int ps.length) H
def spArrows (C : Addr) : Sp := fun vs H Q _ => ∃ (x : Addr) (n : Nat) (ps : List (Nat × Nat)), vs = [.ref x] ∧ WebAt C H x n ps ∧ ∀ (H' : Hp) (l : Addr) (as : List V), Same H H' → H l = none → H' l = some (.lst as) → PairsIn H' as ps → Q (.ref l) H'
def spBegin (C : Addr) : Sp := fun vs H Q _ => ∃ (x : Addr) (n : Nat) (ps : List (Nat × Nat)) (i : Nat) (p : Nat × Nat), vs = [.ref x, .int i] ∧ WebAt C H x n ps ∧ ps[i]? = some p ∧ Q (.int p.1) H
def spEnd (C : Addr) : Sp := fun vs H Q _ => ∃ (x : Addr) (n : Nat) (ps : List (Nat × Nat)) (i : Nat) (p : Nat × Nat), vs = [.ref x, .int i] ∧ WebAt C H x n ps ∧ ps[i]? = some p ∧ Q (.int p.2) H
def spOuts (C : Addr) : Sp := fun vs H Q _ => ∃ (x : Addr) (n : Nat) (ps : List (Nat × Nat)) (r : Nat), vs = [.ref x, .int r] ∧ WebAt C H x n ps ∧ r < n ∧ ∀ (H' : Hp) (l : Addr), Same H H' → H l = none → H' l = some (.lst (nums (idxs (ps.map (·.1)) r 0))) → Q (.ref l) H'
def spIns (C : Addr) : Sp := fun vs H Q _ => ∃ (x : Addr) (n : Nat) (ps : List (Nat × Nat)) (r : Nat), vs = [.ref x, .int r] ∧ WebAt C H x n ps ∧ r < n ∧ ∀ (H' : Hp) (l : Addr), Same H H' → H l = none → H' l = some (.lst (nums (idxs (ps.map (·.2)) r 0))) → Q (.ref l) H'
def spLeading (C : Addr) : Sp := fun vs H Q _ => ∃ (x : Addr) (n : Nat) (ps : List (Nat × Nat)) (r s : Nat), vs = [.ref x, .int r, .int s] ∧ WebAt C H x n ps ∧ r < n ∧ s < n ∧ ∀ H' : Hp, Same H H' → Q (.int (cnt ps r s)) H'
def spRepr (C : Addr) : Sp := fun vs H Q _ => ∃ (x : Addr) (n : Nat) (ps : List (Nat × Nat)), vs = [.ref x] ∧ WebAt C H x n ps ∧ n ≤ 500 ∧ ps.length ≤ 500 ∧ Q (.str (webTxt n ps.length)) H
def spEq (C : Addr) : Sp := fun vs H Q _ => ∃ (x y : Addr) (n : Nat) (ps : List (Nat × Nat)), vs = [.ref x, .ref y] ∧ WebAt C H x n ps ∧ ((∃ (m : Nat) (qs : List (Nat × Nat)), WebAt C H y m qs ∧ Q (.bl (decide (n = m ∧ ps = qs))) H) ∨ (∃ ys, FzT H y ys ∧ Q (.bl false) H))
theorem row_at {H : Hp} {vs : List V} {ls : List (List Nat)} {i : Nat} {l : List Nat} (h : RowsIn H vs ls) (e : ls[i]? = some l) : ∃ a, vs[i]? = some (.ref a) ∧ H a = some (.tup (nums l)) := by
  induction h generalizing i with
  | nil => simp at e
  | cons x r ih =>
    cases i with
    | zero =>
      obtain ⟨a, e1, h1⟩ := x
      simp at e
      subst e
      exact ⟨a, by rw [e1]; rfl, h1⟩
    | succ i =>
      obtain ⟨a, h1, h2⟩ := ih (i := i) (by simpa using e)
      exact ⟨a, by simpa using h1, h2⟩
theorem pair_at {H : Hp} {as : List V} {ps : List (Nat × Nat)} {i : Nat} {p : Nat × Nat} (h : PairsIn H as ps) (e : ps[i]? = some p) : ∃ a, as[i]? = some (.ref a) ∧ H a = some (.tup [.int p.1, .int p.2]) := by
  induction h generalizing i with
  | nil => simp at e
  | cons x r ih =>
    cases i with
    | zero =>
      obtain ⟨a, e1, h1⟩ := x
      simp at e
      subst e
      exact ⟨a, by rw [e1]; rfl, h1⟩
    | succ i =>
      obtain ⟨a, h1, h2⟩ := ih (i := i) (by simpa using e)
      exact ⟨a, by simpa using h1, h2⟩
theorem gat_at {n r : Nat} (ps : List Nat) (h : r < n) : (gat n ps)[r]? = some (idxs ps r 0) := by
  unfold gat
  rw [List.getElem?_map, List.getElem?_range h]
  rfl
section
variable {P : Program} {w : World} {K : PySem.W.Frag} {mg : Str → Option Value} {base : Heap}
theorem scHas : FnScope ["self", "arrow"] ["self", "arrow"] (defScope sHas) := ⟨rfl, rfl, rfl, by decide +kernel, rfl, by decide +kernel, by decide +kernel⟩
theorem ok_has {f C : Addr} {fd : FuncData} (F : Fun K "has_arrow" "Web.has_arrow" sHas f fd) (T : WebC K C) (mLen : mg "len" = none) : FnOk P w K mg base CX0 1 f fd ["self", "arrow"] (spHas C) := by
  refine F.ok scHas (fun vs H Q E h => ?_) (fun cdv A outer s H vs Q E hr h => ?_)
  · obtain ⟨x, n, ps, i, rfl, _⟩ := h
    rfl
  · obtain ⟨x, n, ps, i, rfl, ⟨dx, q, lv, en, as, ls, es, hx, hq, hP, _⟩, k⟩ := h
    have hl : as.length = ps.length := Paired.length hP
    refine ⟨_, pss_one (ps_ret (pe_chain op_le op_lt pe_int (pv 1) (pe_callB call_len_seq (by rfl) mLen PySem.boot_len (pa_cons (pe_fld (pv 0) rfl) pa_nil)))), ?_⟩
    refine ⟨_, rfl, _, _, rfl, rfl, _, rfl, ?_⟩
    refine ite2 (fun h0 => ?_) (fun h0 => ?_)
    · refine ⟨_, rfl, x, C, dx, _, _, rfl, hx, T.cl, T.nP, wf_pairs _ _ _ _, q, _, rfl, .inr hq.sq, _, _, rfl, rfl, ?_⟩
      have h0' : 0 ≤ i := of_decide_eq_true h0
      have e : decide (i < ((as.length : Nat) : Int)) = decide (0 ≤ i ∧ i < ((ps.length : Nat) : Int)) := by rw [hl]; simp [h0']
      dsimp only
      rw [e]
      exact k
    · have h0' : ¬ 0 ≤ i := fun z => h0 (decide_eq_true z)
      have e : decide (0 ≤ i ∧ i < ((ps.length : Nat) : Int)) = false := by simp [h0']
      rw [e] at k
      exact k
theorem scNeedA : FnScope ["self", "arrow"] ["self", "arrow"] (defScope sNeedA) := ⟨rfl, rfl, rfl, by decide +kernel, rfl, by decide +kernel, by decide +kernel⟩
theorem wf_meth (n : Nat) (q lv en : Addr) {m : Str} (h : (decide (m = "entering") || decide (m = "leaving") || decide (m = "pairs") || decide (m = "room_total")) = false) : (wf n q lv en).lookup m = none := by
  simp only [Bool.or_eq_false_iff, decide_eq_false_iff_not] at h
  exact wf_no _ _ _ _ h.1.1.1 h.1.1.2 h.1.2 h.2
theorem ok_need_arrow {f fH C : Addr} {fd fdH : FuncData} (F : Fun K "need_arrow" "Web.need_arrow" sNeedA f fd) (T : WebC K C) (GH : FnOk P w K mg base CX0 1 fH fdH ["self", "arrow"] (spHas C)) (bH : Binds K fdH ["self", "arrow"] []) (mH : Meth K C "has_arrow" fH) :
    FnOk P w K mg base CX0 2 f fd ["self", "arrow"] (spNeedA C) := by
  refine F.ok scNeedA (fun vs H Q E h => ?_) (fun cdv A outer s H vs Q E hr h => ?_)
  · obtain ⟨x, n, ps, i, rfl, _⟩ := h
    rfl
  · obtain ⟨x, n, ps, i, rfl, W, hi, k⟩ := h
    obtain ⟨dx, q, lv, en, as, ls, es, hx, hq, hP, _⟩ := id W
    refine ⟨_, pss_one (ps_if (pt_not (pt_val (pe_meth (pv 0) T.cl mH GH hr bH .nil pass0 (pa_cons (pv 1) pa_nil)))) pss_never pss_nil), ?_⟩
    have e : decide (0 ≤ ((i : Nat) : Int) ∧ ((i : Nat) : Int) < ((ps.length : Nat) : Int)) = true := decide_eq_true ⟨by omega, by omega⟩
    exact ⟨_, rfl, x, dx, _, rfl, hx, wf_meth _ _ _ _ (by decide +kernel), _, rfl, x, n, ps, i, rfl, W, true, congrArg V.bl e, iteF k⟩
theorem scNeedR : FnScope ["self", "room"] ["self", "room"] (defScope sNeedR) := ⟨rfl, rfl, rfl, by decide +kernel, rfl, by decide +kernel, by decide +kernel⟩
theorem ok_need_room {f C : Addr} {fd : FuncData} (F : Fun K "need_room" "Web.need_room" sNeedR f fd) (T : WebC K C) : FnOk P w K mg base CX0 1 f fd ["self", "room"] (spNeedR C) := by
  refine F.ok scNeedR (fun vs H Q E h => ?_) (fun cdv A outer s H vs Q E hr h => ?_)
  · obtain ⟨x, n, ps, i, rfl, _⟩ := h
    rfl
  · obtain ⟨x, n, ps, i, rfl, ⟨dx, q, lv, en, as, ls, es, hx, hq, hP, _⟩, hi, k⟩ := h
    refine ⟨_, pss_one (ps_if (pt_not (pt_chain op_le op_lt pe_int (pv 1) (pe_fld (pv 0) rfl))) pss_never pss_nil), ?_⟩
    have d1 : decide ((0 : Int) ≤ (i : Int)) = true := decide_eq_true (by omega)
    have d2 : decide ((i : Int) < (n : Int)) = true := decide_eq_true (by omega)
    exact ⟨_, rfl, _, _, rfl, rfl, true, congrArg V.bl d1, iteT ⟨_, rfl, x, C, dx, _, _, rfl, hx, T.cl, T.nT, wf_total _ _ _ _, _, _, rfl, rfl, true, congrArg V.bl d2, iteF k⟩⟩
theorem scRooms : FnScope ["self"] ["self"] (defScope sRooms) := ⟨rfl, rfl, rfl, by decide +kernel, rfl, by decide +kernel, by decide +kernel⟩
theorem ok_rooms {f C : Addr} {fd : FuncData} (F : Fun K "rooms" "Web.rooms" sRooms f fd) (T : WebC K C) : FnOk P w K mg base CX0 1 f fd ["self"] (spRooms C) := by
  refine F.ok scRooms (fun vs H Q E h => ?_) (fun cdv A outer s H vs Q E hr h => ?_)
  · obtain ⟨x, n, ps, rfl, _⟩ := h
    rfl
  · obtain ⟨x, n, ps, rfl, ⟨dx, q, lv, en, as, ls, es, hx, hq, hP, _⟩, k⟩ := h
    exact ⟨_, pss_one (ps_ret (pe_fld (pv 0) rfl)), _, rfl, x, C, dx, _, _, rfl, hx, T.cl, T.nT, wf_total _ _ _ _, k⟩
theorem scLen : FnScope ["self"] ["self"] (defScope sLen) := ⟨rfl, rfl, rfl, by decide +kernel, rfl, by decide +kernel, by decide +kernel⟩
theorem ok_len {f C : Addr} {fd : FuncData} (F : Fun K "__len__" "Web.__len__" sLen f fd) (T : WebC K C) (mLen : mg "len" = none) : FnOk P w K mg base CX0 1 f fd ["self"] (spLen C) := by
  refine F.ok scLen (fun vs H Q E h => ?_) (fun cdv A outer s H vs Q E hr h => ?_)
  · obtain ⟨x, n, ps, rfl, _⟩ := h
    rfl
  · obtain ⟨x, n, ps, rfl, ⟨dx, q, lv, en, as, ls, es, hx, hq, hP, _⟩, k⟩ := h
    have hl : as.length = ps.length := Paired.length hP
    refine ⟨_, pss_one (ps_ret (pe_callB call_len_seq (by rfl) mLen PySem.boot_len (pa_cons (pe_fld (pv 0) rfl) pa_nil))), _, rfl, x, C, dx, _, _, rfl, hx, T.cl, T.nP, wf_pairs _ _ _ _, q, _, rfl, .inr hq.sq, ?_⟩
    rw [hl]
    exact k
theorem scArrows : FnScope ["self"] ["self"] (defScope sArrows) := ⟨rfl, rfl, rfl, by decide +kernel, rfl, by decide +kernel, by decide +kernel⟩
theorem ok_arrows {f C : Addr} {fd : FuncData} (F : Fun K "arrows" "Web.arrows" sArrows f fd) (T : WebC K C) (mList : mg "list" = none) : FnOk P w K mg base CX0 1 f fd ["self"] (spArrows C) := by
  refine F.ok scArrows (fun vs H Q E h => ?_) (fun cdv A outer s H vs Q E hr h => ?_)
  · obtain ⟨x, n, ps, rfl, _⟩ := h
    rfl
  · obtain ⟨x, n, ps, rfl, ⟨dx, q, lv, en, as, ls, es, hx, hq, hP, _⟩, k⟩ := h
    exact ⟨_, pss_one (ps_ret (pe_callTy call_list_of (by rfl) mList (by decide +kernel) (pa_cons (pe_fld (pv 0) rfl) pa_nil))), _, rfl, x, C, dx, _, _, rfl, hx, T.cl, T.nP, wf_pairs _ _ _ _, q, _, rfl, .inr hq.sq, fun l hl =>
      k _ l as (same_new (Same.refl H) hl) hl upd_same (PairsIn.kp (Kp.new hl) hP)⟩
theorem scBegin : FnScope ["self", "arrow"] ["self", "arrow"] (defScope sBegin) := ⟨rfl, rfl, rfl, by decide +kernel, rfl, by decide +kernel, by decide +kernel⟩
theorem ok_begin {f fN C : Addr} {fd fdN : FuncData} (F : Fun K "begin" "Web.begin" sBegin f fd) (T : WebC K C) (GN : FnOk P w K mg base CX0 2 fN fdN ["self", "arrow"] (spNeedA C)) (bN : Binds K fdN ["self", "arrow"] []) (mN : Meth K C "need_arrow" fN) :
    FnOk P w K mg base CX0 3 f fd ["self", "arrow"] (spBegin C) := by
  refine F.ok scBegin (fun vs H Q E h => ?_) (fun cdv A outer s H vs Q E hr h => ?_)
  · obtain ⟨x, n, ps, i, p, rfl, _⟩ := h
    rfl
  · obtain ⟨x, n, ps, i, p, rfl, W, hp, k⟩ := h
    obtain ⟨dx, q, lv, en, as, ls, es, hx, hq, hP, _⟩ := id W
    have hi : i < ps.length := (List.getElem?_eq_some_iff.mp hp).1
    obtain ⟨c, hc, hcp⟩ := pair_at hP hp
    refine ⟨_, pss_cons (ps_expr (pe_meth (pv 0) T.cl mN GN hr bN .nil pass0 (pa_cons (pv 1) pa_nil))) (pss_one (ps_ret (pe_ix ix_tup (pe_ix ix_tup (pe_fld (pv 0) rfl) (pv 1) (fun _ _ => rfl)) pe_int (fun _ _ => rfl)))), ?_⟩
    exact ⟨_, rfl, x, dx, _, rfl, hx, wf_meth _ _ _ _ (by decide +kernel), _, rfl, x, n, ps, i, rfl, W, hi, _, rfl, x, C, dx, _, _, rfl, hx, T.cl, T.nP, wf_pairs _ _ _ _, _, rfl, q, _, _, _, rfl, rfl, hq.sq, atI_nat hc, c, _, _, _, rfl, rfl, SqT.of hcp, rfl, k⟩
theorem scEnd : FnScope ["self", "arrow"] ["self", "arrow"] (defScope sEnd) := ⟨rfl, rfl, rfl, by decide +kernel, rfl, by decide +kernel, by decide +kernel⟩
theorem scOuts : FnScope ["self", "room"] ["self", "room"] (defScope sOuts) := ⟨rfl, rfl, rfl, by decide +kernel, rfl, by decide +kernel, by decide +kernel⟩
theorem ok_outs {f fN C : Addr} {fd fdN : FuncData} (F : Fun K "outs" "Web.outs" sOuts f fd) (T : WebC K C) (GN : FnOk P w K mg base CX0 1 fN fdN ["self", "room"] (spNeedR C)) (bN : Binds K fdN ["self", "room"] []) (mN : Meth K C "need_room" fN) (mList : mg "list" = none) :
    FnOk P w K mg base CX0 2 f fd ["self", "room"] (spOuts C) := by
  refine F.ok scOuts (fun vs H Q E h => ?_) (fun cdv A outer s H vs Q E hr h => ?_)
  · obtain ⟨x, n, ps, r, rfl, _⟩ := h
    rfl
  · obtain ⟨x, n, ps, r, rfl, W, hi, k⟩ := h
    obtain ⟨dx, q, lv, en, as, ls, es, hx, hq, hP, hlv, hR, hen, hR2⟩ := id W
    obtain ⟨c, hc, hcp⟩ := row_at hR (gat_at _ hi)
    refine ⟨_, pss_cons (ps_expr (pe_meth (pv 0) T.cl mN GN hr bN .nil pass0 (pa_cons (pv 1) pa_nil))) (pss_one (ps_ret (pe_callTy call_list_of (by rfl) mList (by decide +kernel) (pa_cons (pe_ix ix_tup (pe_fld (pv 0) rfl) (pv 1) (fun _ _ => rfl)) pa_nil)))), ?_⟩
    exact ⟨_, rfl, x, dx, _, rfl, hx, wf_meth _ _ _ _ (by decide +kernel), _, rfl, x, n, ps, r, rfl, W, hi, _, rfl, x, C, dx, _, _, rfl, hx, T.cl, T.nL, wf_leaving _ _ _ _, _, rfl, lv, _, _, _, rfl, rfl, SqT.of hlv, atI_nat hc, c, _, rfl, .inr (SqT.of hcp), fun l hl =>
      k _ l (same_new (Same.refl H) hl) hl upd_same⟩
theorem scIns : FnScope ["self", "room"] ["self", "room"] (defScope sIns) := ⟨rfl, rfl, rfl, by decide +kernel, rfl, by decide +kernel, by decide +kernel⟩
theorem scLeading : FnScope ["self", "one", "other"] ["self", "one", "other"] (defScope sLeading) := ⟨rfl, rfl, rfl, by decide +kernel, rfl, by decide +kernel, by decide +kernel⟩
theorem scRepr : FnScope ["self"] ["self"] (defScope sRepr) := ⟨rfl, rfl, rfl, by decide +kernel, rfl, by decide +kernel, by decide +kernel⟩
theorem ok_repr {f C : Addr} {fd : FuncData} (F : Fun K "__repr__" "Web.__repr__" sRepr f fd) (T : WebC K C) (mLen : mg "len" = none) : FnOk P w K mg base CX0 1 f fd ["self"] (spRepr C) := by
  refine F.ok scRepr (fun vs H Q E h => ?_) (fun cdv A outer s H vs Q E hr h => ?_)
  · obtain ⟨x, n, ps, rfl, _⟩ := h
    rfl
  · obtain ⟨x, n, ps, rfl, ⟨dx, q, lv, en, as, ls, es, hx, hq, hP, _⟩, hn, hp, k⟩ := h
    have hl : as.length = ps.length := Paired.length hP
    have l1 := numT_len n hn
    have l2 := numT_len ps.length hp
    have c1 : ("Web(" : Str).length = 4 := by decide +kernel
    have c2 : (" rooms, " : Str).length = 8 := by decide +kernel
    have c3 : (" arrows)" : Str).length = 8 := by decide +kernel
    have c0 : Str.empty.length = 0 := by decide +kernel
    have b1 : (Str.empty ++ "Web(").length ≤ sizeLine := by rw [str_len_append, sizeLine_eq]; omega
    have b2 : (Str.empty ++ "Web(" ++ numT n).length ≤ sizeLine := by rw [str_len_append, str_len_append, sizeLine_eq]; omega
    have b3 : (Str.empty ++ "Web(" ++ numT n ++ " rooms, ").length ≤ sizeLine := by rw [str_len_append, str_len_append, str_len_append, sizeLine_eq]; omega
    have b4 : (Str.empty ++ "Web(" ++ numT n ++ " rooms, " ++ numT ps.length).length ≤ sizeLine := by rw [str_len_append, str_len_append, str_len_append, str_len_append, sizeLine_eq]; omega
    have b5 : (webTxt n ps.length).length ≤ sizeLine := by unfold webTxt; rw [str_len_append, str_len_append, str_len_append, str_len_append, str_len_append, sizeLine_eq]; omega
    refine ⟨_, pss_one (ps_ret (pe_joined (.cons pe_str (.cons (pe_fmt (pe_fld (pv 0) rfl)) (.cons pe_str (.cons (pe_fmt (pe_callB call_len_seq (by rfl) mLen PySem.boot_len (pa_cons (pe_fld (pv 0) rfl) pa_nil))) (.cons pe_str .nil))))))), ?_⟩
    refine ⟨_, rfl, b1, _, rfl, x, C, dx, _, _, rfl, hx, T.cl, T.nT, wf_total _ _ _ _, .inr ⟨_, rfl, small_log n hn, numT n, rfl, b2, _, rfl, b3, _, rfl, x, C, dx, _, _, rfl, hx, T.cl, T.nP, wf_pairs _ _ _ _, q, _, rfl, .inr hq.sq, .inr ⟨_, rfl, ?_, numT ps.length, ?_, b4, _, rfl, b5, k⟩⟩⟩
    · rw [hl]
      exact small_log _ hp
    · rw [hl]
      rfl
theorem scEq : FnScope ["self", "other"] ["self", "other"] (defScope sEq) := ⟨rfl, rfl, rfl, by decide +kernel, rfl, by decide +kernel, by decide +kernel⟩
theorem ok_eq {f C : Addr} {fd : FuncData} (F : Fun K "__eq__" "Web.__eq__" sEq f fd) (T : WebC K C) (TQ : WebQ K C) (mIsi : mg "isinstance" = none) (mC : mg "Web" = some (.ref C)) : FnOk P w K mg base CX0 1 f fd ["self", "other"] (spEq C) := by
  refine F.ok scEq (fun vs H Q E h => ?_) (fun cdv A outer s H vs Q E hr h => ?_)
  · obtain ⟨x, y, n, ps, rfl, _⟩ := h
    rfl
  · obtain ⟨x, y, n, ps, rfl, ⟨dx, q, lv, en, as, ls, es, hx, hq, hP, _⟩, k⟩ := h
    refine ⟨_, pss_one (ps_ret (pe_and (pe_callB call_isi (by rfl) mIsi (by decide +kernel) (pa_cons (pv 1) (pa_cons (pe_glob (v := .ref C) rfl mC rfl) pa_nil)))
      (pe_and (pe_cmpR op_eq (pe_fld (pv 0) rfl) (pe_fld (pv 1) rfl) (nomark _)) (pe_one (pe_cmpR (op_eqD hr.units) (pe_fld (pv 0) rfl) (pe_fld (pv 1) rfl) (nomark _)))))), ?_⟩
    rcases k with ⟨m, qs, ⟨dy, q2, lv2, en2, as2, ls2, es2, hy, hq2, hP2, _⟩, k⟩ | ⟨ys, ⟨oy, hy, _⟩, k⟩
    · refine ⟨_, rfl, .ref y, .ref C, .ref C, .ref C, true, rfl, .own C, .base (.ins hy T.cl TQ.ha TQ.hn TQ.ht TQ.hm), TQ.kO, true, rfl, iteT ?_⟩
      refine ⟨_, rfl, x, C, dx, _, _, rfl, hx, T.cl, T.nT, wf_total _ _ _ _, _, rfl, y, C, dy, _, _, rfl, hy, T.cl, T.nT, wf_total _ _ _ _, rfl, _, rfl, ?_⟩
      refine ite2 (fun e => ?_) (fun e => ?_)
      · have e1 : n = m := by
          have z := of_decide_eq_true e
          injection z with z
          omega
        refine ⟨_, rfl, x, C, dx, _, _, rfl, hx, T.cl, T.nP, wf_pairs _ _ _ _, _, rfl, y, C, dy, _, _, rfl, hy, T.cl, T.nP, wf_pairs _ _ _ _, .tuple (ps.map pD), .tuple (qs.map pD), .tup hq.sq (dp_pairs hP), .tup hq2.sq (dp_pairs hP2), pDs_shaped _, pDs_shaped _, ?_⟩
        have e2 : PyData.eqv (.tuple (ps.map pD)) (.tuple (qs.map pD)) = decide (n = m ∧ ps = qs) := by
          simp only [PyData.eqv, pDs_eqv, e1, true_and]
        rw [e2]
        exact k
      · have e1 : ¬ n = m := fun z => e (decide_eq_true (by rw [z]))
        have e2 : decide (n = m ∧ ps = qs) = false := decide_eq_false fun z => e1 z.1
        rw [e2] at k
        exact k
    · exact ⟨_, rfl, .ref y, .ref C, .type "tuple", .ref C, false, rfl, .own C, .fTuple hy, TQ.kT, false, rfl, iteF k⟩
end
end KW


set_option Elab.async false
set_option maxRecDepth 100000
/-! The law's own: outs, ins, count, naming, named. -/
namespace KW
open PySem PySem.Spec PyProof.Rows L2
abbrev sLOuts : Stmt := topS 52
def spLOuts : Sp := fun vs H Q _ => ∃ (t : Addr) (n : Nat) (ps : List (Nat × Nat)) (r : Nat), vs = [.ref t, .int r] ∧ WebT H t n ps ∧ ps.length ≤ 500 ∧ ∀ (H' : Hp) (l : Addr), Same H H' → H l = none → H' l = some (.lst (nums (idxs (ps.map (·.1)) r 0))) → Q (.ref l) H'
def spLIns : Sp := fun vs H Q _ => ∃ (t : Addr) (n : Nat) (ps : List (Nat × Nat)) (r : Nat), vs = [.ref t, .int r] ∧ WebT H t n ps ∧ ps.length ≤ 500 ∧ ∀ (H' : Hp) (l : Addr), Same H H' → H l = none → H' l = some (.lst (nums (idxs (ps.map (·.2)) r 0))) → Q (.ref l) H'
def spLCount : Sp := fun vs H Q _ => ∃ (t : Addr) (n : Nat) (ps : List (Nat × Nat)) (r s : Nat), vs = [.ref t, .int r, .int s] ∧ WebT H t n ps ∧ ∀ H' : Hp, Same H H' → Q (.int (cnt ps r s)) H'
def spNaming : Sp := fun vs H Q _ => ∃ (b l : Addr) (ns : List Int) (t : Addr) (n : Nat) (ps : List (Nat × Nat)), vs = [.ref b, .ref t] ∧ BagAt b l ns H ∧ WebT H t n ps ∧ n ≤ 500 ∧ ps.length ≤ 500 ∧
  ∀ (H' : Hp) (u a1 a2 : Addr) (rs is : List Nat), Grow b H H' → BagAt b l ns H' → H' u = some (.tup [.ref a1, .ref a2]) → H' a1 = some (.lst (nums rs)) → H' a2 = some (.lst (nums is)) → rs.Perm (List.range n) → is.Perm (List.range ps.length) → Q (.ref u) H'
def spNamed (K : PySem.W.Frag) : Sp := fun vs H Q _ => ∃ (t a1 a2 : Addr) (n : Nat) (ps : List (Nat × Nat)) (rs is : List Nat), vs = [.ref t, .ref a1, .ref a2] ∧ WebT H t n ps ∧ n ≤ 500 ∧ ps.length ≤ 500 ∧ H a1 = some (.lst (nums rs)) ∧ H a2 = some (.lst (nums is)) ∧ rs.Perm (List.range n) ∧ is.Perm (List.range ps.length) ∧
  ∀ (H' : Hp) (u : Addr) (qs : List (Nat × Nat)), Same H H' → WebT H' u n qs → qs.length = ps.length → Q (.ref u) H'
theorem rg_nums (n : Nat) : rgV 0 (n : Int) = nums (List.range n) := by
  unfold rgV nums
  have e : ((n : Int) - 0).toNat = n := by omega
  rw [e]
  apply List.map_congr_left
  intro i _
  show V.int (0 + (i : Int)) = V.int (i : Int)
  rw [Int.zero_add]
theorem perm_nums {ys : List V} {l : List Nat} (h : ys.Perm (nums l)) : ∃ rs, ys = nums rs ∧ rs.Perm l := by
  have paired : Paired (fun v i => v = nV i) (nums l) l := by
    have all : ∀ l : List Nat, Paired (fun v i => v = nV i) (nums l) l := by
      intro l
      induction l with
      | nil => exact .nil
      | cons i l ih => exact .cons rfl ih
    exact all l
  obtain ⟨rs, h1, h2⟩ := paired_perm h paired
  refine ⟨rs, ?_, h2⟩
  have back : ∀ {vs : List V} {l : List Nat}, Paired (fun v i => v = nV i) vs l → vs = nums l := by
    intro vs l r
    induction r with
    | nil => rfl
    | cons e _ ih => rw [e, ih]; rfl
  exact back h1
theorem nums_at {l : List Nat} {i j : Nat} (h : l[i]? = some j) : (nums l)[i]? = some (.int (j : Int)) := by
  unfold nums
  rw [List.getElem?_map, h]
  rfl
section
variable {P : Program} {w : World} {K : PySem.W.Frag} {mg : Str → Option Value} {base : Heap}
abbrev nLOuts : List Str := ["_law_w", "_law_room", "_law_at", "_law_pair"]
theorem scLOuts : FnScope nLOuts ["_law_w", "_law_room"] (defScope sLOuts) := ⟨rfl, rfl, rfl, by decide +kernel, rfl, by decide +kernel, by decide +kernel⟩
theorem ok_louts {f : Addr} {fd : FuncData} (F : Fun K "_law_outs" "_law_outs" sLOuts f fd) (mEnum : mg "enumerate" = none) : FnOk P w K mg base CX0 1 f fd ["_law_w", "_law_room"] spLOuts := by
  refine F.ok scLOuts (fun vs H Q E h => ?_) (fun cdv A outer s H vs Q E hr h => ?_)
  · obtain ⟨t, n, ps, r, rfl, _⟩ := h
    rfl
  · obtain ⟨t, n, ps, r, rfl, ⟨q, as, ht, hq, hP, hG⟩, hlen, k⟩ := h
    have hl : as.length = ps.length := Paired.length hP
    refine ⟨_, pss_one (ps_ret (pe_lc (own := [("_law_at", 2), ("_law_pair", 3)]) (g := gTup K 2 (gCons (gName 2) (gCons (gName 3) gNil))) rfl scLOuts.nd (pi_enT (by rfl) mEnum (pa_cons (pe_ix ix_tup (pv 0) pe_int (fun _ _ => rfl)) pa_nil))
      (blkOk_by (own := [("_law_at", 2), ("_law_pair", 3)]) (N := nLOuts) (sc := defScope sLOuts) (by decide +kernel)) (fun _ _ _ _ _ => pg_tup rfl (pgs_cons (pg_name (i := 2) scLOuts.nd rfl (Or.inl rfl)) (pgs_cons (pg_name (i := 3) scLOuts.nd rfl (Or.inl rfl)) pgs_nil)))
      (fun _ _ _ _ _ => pts_one (pt_cmpR op_eq (pe_ix (ix_tupK (K := K) rfl) (pv 3) pe_int (fun _ _ => rfl)) (pv 1) (nomark _))) (fun _ _ _ _ _ => pv 2))), ?_⟩
    refine ⟨_, rfl, t, _, _, _, rfl, rfl, SqT.of ht, rfl, q, as, rfl, hq.sq, fun D hD => ?_⟩
    refine lc_it (walk_enT (K := K) (a := q) (xs := as)) (fun i H' => H' D = some (.lst (nums (idxs ((ps.take i).map (·.1)) r 0))) ∧ Same H H')
      ⟨upd_same, same_new (Same.refl H) hD⟩ (fun i H' _ ⟨_, s'⟩ => ((Same.kp s').f hq).sq) ?_ ?_
    · rintro i x H' H2 hi ⟨hD', s'⟩ ⟨T, x1, x2, rfl, hT, rfl, e1, e2⟩
      have e1 : V.int (i : Nat) = x1 := Option.some.inj e1
      subst e1
      obtain ⟨p, c, hp, rfl, hc⟩ := pairs_get hP e2
      have nDT : D ≠ T := ne_of_none hD' hT
      have hc2 : upd H' T (.tup [.int (i : Nat), .ref c]) c = some (.tup [.int p.1, .int p.2]) := by rw [upd_ne (ne_of_none (s' _ _ hc) hT)]; exact s' _ _ hc
      have hD2 : upd H' T (.tup [.int (i : Nat), .ref c]) D = some (.lst (nums (idxs ((ps.take i).map (·.1)) r 0))) := by rw [upd_ne nDT]; exact hD'
      have tl : ((ps.take i).map (·.1)).length = i := by
        have := (List.getElem?_eq_some_iff.mp hp).1
        rw [List.length_map, List.length_take]
        omega
      have et : (ps.take (i + 1)).map (·.1) = (ps.take i).map (·.1) ++ [p.1] := by
        rw [take_snoc hp, List.map_append]
        rfl
      refine ⟨T, _, rfl, SqT.of upd_same, rfl, _, _, rfl, _, _, rfl, rfl, rfl, _, rfl, c, _, _, _, rfl, rfl, SqT.of hc2, rfl, _, rfl, rfl, _, rfl, ?_⟩
      refine ite2 (fun e => ?_) (fun e => ?_)
      · have e' : p.1 = r := by
          have z := of_decide_eq_true e
          injection z with z
          omega
        refine ⟨_, rfl, _, hD2, ?_, ?_, same_put (same_new s' hT) hD⟩
        · have := idxs_len r ((ps.take i).map (·.1)) 0
          rw [sizeLine_eq]
          simp only [nums, List.length_map] at this ⊢
          have := List.length_take_le' i ps
          omega
        · rw [upd_same, et, idxs_snoc, if_pos e', tl, Nat.zero_add, nums_snoc]
      · have e' : ¬ p.1 = r := fun z => e (decide_eq_true (by rw [z]))
        refine ⟨?_, same_new s' hT⟩
        rw [et, idxs_snoc, if_neg e', List.append_nil]
        exact hD2
    · rintro H' ⟨hD', s'⟩
      rw [hl, List.take_length] at hD'
      exact k H' D s' hD hD'
end
end KW


set_option Elab.async false
set_option maxRecDepth 100000
set_option maxHeartbeats 1000000
/-! The program's refusals. -/
namespace KW
open PySem PySem.Spec PyProof.Rows L2
abbrev sFoldInit : Stmt := inClass (topS 2) 0
abbrev sRoomInit : Stmt := inClass (topS 6) 0
abbrev sArrowInit : Stmt := inClass (topS 7) 0
/-- the def FoldError.__init__, with its one default -/
abbrev FoldFn (K : PySem.W.Frag) (f : Addr) (fd : FuncData) : Prop := FunD K "__init__" "FoldError.__init__" (defArgs sFoldInit) (defBody sFoldInit) (defScope sFoldInit) [.str "it cannot be"] [] f fd
/-- what is asked of a class of refusals -/
structure RefC (K : PySem.W.Frag) (C : Addr) : Prop where
  ox : OexC K C
  nw : PySem.W.findIn K (.ref C) "word" = some none
def w1 (s : Str) : List (Str × V) := [(("word" : Str), .str s)]
def spFoldInit (K : PySem.W.Frag) : Sp := fun vs H Q _ => ∃ (a C : Addr) (z : Str), vs = [.ref a, .str z] ∧ RefC K C ∧ H a = some (exo a C none) ∧ ∀ dx, H dx = none → dx ≠ a → Q .non (upd (upd H dx (exd dx (w1 "FoldError"))) a (exo a C (some dx)))
def spInit0 (K : PySem.W.Frag) (word : Str) : Sp := fun vs H Q _ => ∃ (a C : Addr), vs = [.ref a] ∧ RefC K C ∧ H a = some (exo a C none) ∧
  ∀ dx, H dx = none → dx ≠ a → Q .non (upd (upd (upd H dx (exd dx (w1 "FoldError"))) a (exo a C (some dx))) dx (exd dx (("word", .str word) :: w1 "FoldError")))
/-- a refusal of the class C reaches E: its word, its fields -/
def Refuse (C : Addr) (word : Str) (fld : List (Str × V)) (H : Hp) (E : XK) : Prop := ∀ (d : Addr) (fs : List (Str × V)) (H' : Hp), Same H H' → H d = none → H' d = some (.xd fs) → fs.lookup ("word" : Str) = some (.str word) → (∀ p ∈ fld, fs.lookup p.1 = some p.2) → E (.ref C) (some d) H'
theorem Refuse.same {C : Addr} {word : Str} {fld : List (Str × V)} {H H1 : Hp} {E : XK} (s : Same H H1) (r : Refuse C word fld H E) : Refuse C word fld H1 E := fun d fs H' s' n h1 h2 h3 => r d fs H' (s.trans s') (s.free n) h1 h2 h3
section
variable {P : Program} {w : World} {K : PySem.W.Frag} {mg : Str → Option Value} {base : Heap}
theorem scFold : FnScope ["self", "why"] ["self", "why"] (defScope sFoldInit) := ⟨rfl, rfl, rfl, by decide +kernel, rfl, by decide +kernel, by decide +kernel⟩
theorem ok_fold {f : Addr} {fd : FuncData} (F : FoldFn K f fd) (mV : mg "ValueError" = none) (vV : PySem.W.findCls K (.type "ValueError") (.type "type") "__init__" = some (.val (.builtin "ValueError.__init__"))) :
    FnOk P w K mg base CX0 1 f fd ["self", "why"] (spFoldInit K) := by
  refine F.ok scFold (fun vs H Q E h => ?_) (fun cdv A outer s H vs Q E room h => ?_)
  · obtain ⟨a, C, z, rfl, _⟩ := h
    rfl
  · obtain ⟨a, C, z, rfl, R, ha, k⟩ := h
    refine ⟨_, pss_cons (ps_expr (pe_veinit (by rfl) mV vV (pa_cons (pv 0) (pa_cons (pv 1) pa_nil)))) (pss_one (ps_ost (pv 0) pe_str)), ?_⟩
    exact ⟨_, rfl, _, rfl, a, C, [.str z], rfl, by show 1 ≤ 1000; decide, R.ox, ha, _, rfl, a, C, rfl, R.ox, R.nw, .inl ⟨ha, fun dx n1 n2 => k dx n1 n2⟩⟩
theorem fold_binds {f : Addr} {fd : FuncData} (F : FoldFn K f fd) : Binds K fd ["self", "why"] [] := by
  obtain ⟨ds, rel, b⟩ := F.binds1 (ps := ["self", "why"]) 2 1 (by simp) rfl (fun T kV doc pm an cdv ct us its h1 h2 => by
    match us, h1, its, h2 with
    | [_, _], _, [_], _ => exact ⟨_, rfl, rfl⟩)
  cases rel
  exact b
/-- FoldError, as its own classes read it -/
structure FoldC (K : PySem.W.Frag) (mg : Str → Option Value) (CF fF : Addr) : Prop where
  gl : mg "FoldError" = some (.ref CF)
  rd : ∃ mc, ClX.CRead K CF mc ∧ PySem.W.findCls K (.ref CF) mc "__init__" = some (.val (.ref fF))
  kp : PySem.W.keepIn K (.ref fF) = true
theorem scRoom : FnScope ["self"] ["self"] (defScope sRoomInit) := ⟨rfl, rfl, rfl, by decide +kernel, rfl, by decide +kernel, by decide +kernel⟩
theorem ok_badroom {f fF CF : Addr} {fd fdF : FuncData} (F : Fun K "__init__" "BadRoom.__init__" sRoomInit f fd) (Z : FoldC K mg CF fF) (GF : FnOk P w K mg base CX0 1 fF fdF ["self", "why"] (spFoldInit K)) (bF : Binds K fdF ["self", "why"] []) :
    FnOk P w K mg base CX0 2 f fd ["self"] (spInit0 K "BadRoom") := by
  refine F.ok scRoom (fun vs H Q E h => ?_) (fun cdv A outer s H vs Q E room h => ?_)
  · obtain ⟨a, C, rfl, _⟩ := h
    rfl
  · obtain ⟨a, C, rfl, R, ha, k⟩ := h
    obtain ⟨mc, rd, found⟩ := Z.rd
    refine ⟨_, pss_cons (ps_expr (pe_ucall (pe_glob (v := .ref CF) rfl Z.gl rfl) rd found GF room Z.kp bF pass0 (pa_cons (pv 0) (pa_cons pe_str pa_nil)))) (pss_one (ps_ost (pv 0) pe_str)), ?_⟩
    refine ⟨rfl, _, rfl, a, C, _, rfl, R, ha, fun dx n1 n2 => ?_⟩
    exact ⟨_, rfl, a, C, rfl, R.ox, R.nw, .inr ⟨dx, _, upd_same, by rw [upd_ne n2, upd_same], by show 1 ≤ 900; decide, k dx n1 n2⟩⟩
theorem scArrow : FnScope ["self"] ["self"] (defScope sArrowInit) := ⟨rfl, rfl, rfl, by decide +kernel, rfl, by decide +kernel, by decide +kernel⟩
theorem ok_badarrow {f fF CF : Addr} {fd fdF : FuncData} (F : Fun K "__init__" "BadArrow.__init__" sArrowInit f fd) (Z : FoldC K mg CF fF) (GF : FnOk P w K mg base CX0 1 fF fdF ["self", "why"] (spFoldInit K)) (bF : Binds K fdF ["self", "why"] []) :
    FnOk P w K mg base CX0 2 f fd ["self"] (spInit0 K "BadArrow") := by
  refine F.ok scArrow (fun vs H Q E h => ?_) (fun cdv A outer s H vs Q E room h => ?_)
  · obtain ⟨a, C, rfl, _⟩ := h
    rfl
  · obtain ⟨a, C, rfl, R, ha, k⟩ := h
    obtain ⟨mc, rd, found⟩ := Z.rd
    refine ⟨_, pss_cons (ps_expr (pe_ucall (pe_glob (v := .ref CF) rfl Z.gl rfl) rd found GF room Z.kp bF pass0 (pa_cons (pv 0) (pa_cons pe_str pa_nil)))) (pss_one (ps_ost (pv 0) pe_str)), ?_⟩
    refine ⟨rfl, _, rfl, a, C, _, rfl, R, ha, fun dx n1 n2 => ?_⟩
    exact ⟨_, rfl, a, C, rfl, R.ox, R.nw, .inr ⟨dx, _, upd_same, by rw [upd_ne n2, upd_same], by show 1 ≤ 900; decide, k dx n1 n2⟩⟩
end
/-- C() of a class whose __init__ is such: the reading of the raise -/
theorem raise0 {K : PySem.W.Frag} {C : Addr} {word : Str} {H : Hp} {E : XK} (R : RefC K C) (r : Refuse C word [] H E) {σ : L2.St} : tMkO C (spInit0 K word) [] tNil σ H (fun cls d H' => E cls d H') := by
  refine ⟨Nat.zero_le _, fun a na => ⟨a, C, rfl, R, upd_same, fun dx n1 n2 => ⟨rfl, dx, _, ?_, upd_same, ?_, ?_⟩⟩⟩
  · rw [upd_ne n2.symm, upd_same]
  · rw [upd_ne n2] at n1
    exact n1
  · have n1' : H dx = none := by
      rw [upd_ne n2] at n1
      exact n1
    refine r dx _ _ (fun b o e => ?_) n1' upd_same (by rw [L2.lookup_put, if_pos rfl]) (fun p hp => absurd hp (by simp))
    have nb : b ≠ dx := ne_of_none e n1'
    have na' : b ≠ a := ne_of_none e na
    rw [upd_ne nb, del_ne na', upd_ne nb, upd_ne na', upd_ne nb, upd_ne na']
    exact e
/-- what is asked of C() -/
structure Raiser (P : Program) (w : World) (K : PySem.W.Frag) (mg : Str → Option Value) (base : Heap) (name word : Str) (C : Addr) : Prop where
  rc : RefC K C
  gl : mg name = some (.ref C)
  make : ∃ (f : Addr) (fd : FuncData), FnOk P w K mg base CX0 2 f fd ["self"] (spInit0 K word) ∧ Binds K fd ["self"] [] ∧ PySem.W.findIn K (.ref C) "__init__" = some (some (.ref f)) ∧ PySem.W.typeIn K (.ref f) = some (.type "function")
end KW


set_option Elab.async false
set_option maxRecDepth 100000
set_option maxHeartbeats 1000000
/-! The program's refusals: BadWeb. -/
namespace KW
open PySem PySem.Spec PyProof.Rows L2
abbrev sWebErr : Stmt := inClass (topS 5) 0
theorem intT_len {i : Int} (h1 : -1 ≤ i) (h2 : i ≤ 500) : (toString i : Str).length ≤ 5 := by
  by_cases h : 0 ≤ i
  · obtain ⟨n, rfl⟩ := Int.eq_ofNat_of_zero_le h
    exact numT_len n (by omega)
  · have e : i = -1 := by omega
    subst e
    decide +kernel
theorem intT_log {i : Int} (h1 : -1 ≤ i) (h2 : i ≤ 500) : i.natAbs.log2 < 1920 := by
  have h : i.natAbs ≤ 500 := by omega
  exact Nat.lt_of_le_of_lt (Nat.log2_le_self _) (by omega)
def spInit1 (K : PySem.W.Frag) (word fld : Str) : Sp := fun vs H Q _ => ∃ (a C : Addr) (i : Int), vs = [.ref a, .int i] ∧ RefC K C ∧ PySem.W.findIn K (.ref C) fld = some none ∧ -1 ≤ i ∧ i ≤ 500 ∧ H a = some (exo a C none) ∧
  ∀ dx, H dx = none → dx ≠ a → Q .non (upd (upd (upd (upd H dx (exd dx (w1 "FoldError"))) a (exo a C (some dx))) dx (exd dx (("word", .str word) :: w1 "FoldError"))) dx (exd dx ((fld, .int i) :: ("word", .str word) :: w1 "FoldError")))
section
variable {P : Program} {w : World} {K : PySem.W.Frag} {mg : Str → Option Value} {base : Heap}
theorem scWebErr : FnScope ["self", "at"] ["self", "at"] (defScope sWebErr) := ⟨rfl, rfl, rfl, by decide +kernel, rfl, by decide +kernel, by decide +kernel⟩
theorem ok_badweb {f fF CF : Addr} {fd fdF : FuncData} (F : Fun K "__init__" "BadWeb.__init__" sWebErr f fd) (Z : FoldC K mg CF fF) (GF : FnOk P w K mg base CX0 1 fF fdF ["self", "why"] (spFoldInit K)) (bF : Binds K fdF ["self", "why"] []) :
    FnOk P w K mg base CX0 2 f fd ["self", "at"] (spInit1 K "BadWeb" "at") := by
  refine F.ok scWebErr (fun vs H Q E h => ?_) (fun cdv A outer s H vs Q E room h => ?_)
  · obtain ⟨a, C, i, rfl, _⟩ := h
    rfl
  · obtain ⟨a, C, i, rfl, R, nA, i1, i2, ha, k⟩ := h
    obtain ⟨mc, rd, found⟩ := Z.rd
    have l1 := intT_len i1 i2
    have c0 : Str.empty.length = 0 := by decide +kernel
    have c1 : ("this is no web: " : Str).length = 16 := by decide +kernel
    have b1 : (Str.empty ++ "this is no web: ").length ≤ sizeLine := by rw [str_len_append, sizeLine_eq]; omega
    have b2 : (Str.empty ++ "this is no web: " ++ (toString i : Str)).length ≤ sizeLine := by rw [str_len_append, str_len_append, sizeLine_eq]; omega
    refine ⟨_, pss_cons (ps_expr (pe_ucall (pe_glob (v := .ref CF) rfl Z.gl rfl) rd found GF room Z.kp bF pass0 (pa_cons (pv 0) (pa_cons (pe_joined (.cons pe_str (.cons (pe_fmt (pv 1)) .nil))) pa_nil)))) (pss_cons (ps_ost (pv 0) pe_str) (pss_one (ps_ost (pv 0) (pv 1)))), ?_⟩
    refine ⟨rfl, _, rfl, _, rfl, b1, _, rfl, .inr ⟨_, rfl, intT_log i1 i2, (toString i : Str), rfl, b2, a, C, _, rfl, R, ha, fun dx n1 n2 => ?_⟩⟩
    refine ⟨_, rfl, a, C, rfl, R.ox, R.nw, .inr ⟨dx, _, upd_same, by rw [upd_ne n2, upd_same], by show 1 ≤ 900; decide, ?_⟩⟩
    exact ⟨_, rfl, _, rfl, a, C, rfl, R.ox, nA, .inr ⟨dx, _, by rw [upd_ne n2.symm, upd_same], upd_same, by show 2 ≤ 900; decide, k dx n1 n2⟩⟩
end
/-- C(i) of such a class: the reading of the raise -/
theorem raise1 {K : PySem.W.Frag} {C : Addr} {word fld : Str} {i : Int} {H : Hp} {E : XK} (hne : fld ≠ "word") (R : RefC K C) (nA : PySem.W.findIn K (.ref C) fld = some none) (i1 : -1 ≤ i) (i2 : i ≤ 500) (r : Refuse C word [(fld, .int i)] H E) :
    [V.int i].length ≤ 1000 ∧ ∀ a, H a = none → spInit1 K word fld (.ref a :: ([V.int i] ++ [])) (upd H a (exo a C none)) (fun v H2 => v = .non ∧ ∃ (d : Addr) (fs : List (Str × V)), H2 a = some (exo a C (some d)) ∧ H2 d = some (exd d fs) ∧ H d = none ∧ E (.ref C) (some d) (upd (del H2 a) d (.xd fs))) (fun _ _ _ => False) := by
  refine ⟨by show 1 ≤ 1000; decide, fun a na => ⟨a, C, i, rfl, R, nA, i1, i2, upd_same, fun dx n1 n2 => ⟨rfl, dx, _, ?_, upd_same, ?_, ?_⟩⟩⟩
  · rw [upd_ne n2.symm, upd_ne n2.symm, upd_same]
  · rw [upd_ne n2] at n1
    exact n1
  · have n1' : H dx = none := by
      rw [upd_ne n2] at n1
      exact n1
    refine r dx _ _ (fun b o e => ?_) n1' upd_same (by rw [L2.lookup_put, if_neg hne.symm, L2.lookup_put, if_pos rfl]) (fun p hp => ?_)
    · have nb : b ≠ dx := ne_of_none e n1'
      have na' : b ≠ a := ne_of_none e na
      rw [upd_ne nb, del_ne na', upd_ne nb, upd_ne nb, upd_ne na', upd_ne nb, upd_ne na']
      exact e
    · rw [List.mem_singleton.mp hp, L2.lookup_put, if_pos rfl]
/-- what is asked of C(i) -/
structure Raiser1 (P : Program) (w : World) (K : PySem.W.Frag) (mg : Str → Option Value) (base : Heap) (name word fld : Str) (C : Addr) : Prop where
  rc : RefC K C
  nA : PySem.W.findIn K (.ref C) fld = some none
  gl : mg name = some (.ref C)
  make : ∃ (f : Addr) (fd : FuncData), FnOk P w K mg base CX0 2 f fd ["self", fld] (spInit1 K word fld) ∧ Binds K fd ["self", fld] [] ∧ PySem.W.findIn K (.ref C) "__init__" = some (some (.ref f)) ∧ PySem.W.typeIn K (.ref f) = some (.type "function")
end KW


set_option Elab.async false
set_option maxRecDepth 100000
/-! The law's own: same. -/
namespace KW
open PySem PySem.Spec PyProof.Rows L2
abbrev sSame : Stmt := topS 45
mutual
theorem dp_same {K : PySem.W.Frag} {H H' : Hp} (s : Same H H') : ∀ (d : PyData) (v : V), Dp K H v d → Dp K H' v d
  | .none, _, h => by cases h; exact .non
  | .bool b, _, h => by cases h; exact .bl b
  | .int i, _, h => by cases h; exact .int i
  | .str x, _, h => by cases h; exact .str x
  | .list ds, _, h => by
    cases h with
    | lst hs ha => exact .lst (s.seq hs) (dpa_same s ds _ ha)
  | .tuple ds, _, h => by
    cases h with
    | tup hs ha =>
      refine .tup ?_ (dpa_same s ds _ ha)
      rcases hs with (h | ⟨o, h⟩) | h
      · exact .inl (.inl (s _ _ h))
      · exact .inl (.inr ⟨o, s _ _ h⟩)
      · exact .inr h
  | .dict _, _, h => by cases h
theorem dpa_same {K : PySem.W.Frag} {H H' : Hp} (s : Same H H') : ∀ (ds : List PyData) (vs : List V), DpAll K H vs ds → DpAll K H' vs ds
  | [], _, h => by cases h; exact .nil
  | d :: ds, _, h => by
    cases h with
    | cons h1 h2 => exact .cons (dp_same s d _ h1) (dpa_same s ds _ h2)
end
theorem dpa_len {K : PySem.W.Frag} {H : Hp} : ∀ {ds : List PyData} {vs : List V}, DpAll K H vs ds → vs.length = ds.length
  | [], _, h => by cases h; rfl
  | d :: ds, _, h => by
    cases h with
    | cons h1 h2 => rw [List.length_cons, List.length_cons, dpa_len h2]
theorem dpa_at {K : PySem.W.Frag} {H : Hp} : ∀ {ds : List PyData} {vs : List V} {i : Nat} {v : V}, DpAll K H vs ds → vs[i]? = some v → ∃ d, ds[i]? = some d ∧ Dp K H v d
  | [], _, _, _, h, e => by cases h; simp at e
  | d :: ds, _, i, v, h, e => by
    cases h with
    | cons h1 h2 =>
      cases i with
      | zero =>
        simp at e
        subst e
        exact ⟨d, rfl, h1⟩
      | succ i =>
        obtain ⟨d', g1, g2⟩ := dpa_at (i := i) h2 (by simpa using e)
        exact ⟨d', by simpa using g1, g2⟩
theorem ty_list {K : PySem.W.Frag} {H : Hp} {a : Addr} {xs : List V} (h : SqL K H a xs) : TyX K H (.ref a) (.type "list") := by
  rcases h with (h | ⟨o, h⟩) | ⟨o, its, n, h1, h2, _⟩
  · exact .base (.lst h)
  · exact .base (.frz h)
  · exact .kList h1 h2
theorem ty_tup {K : PySem.W.Frag} {H : Hp} {a : Addr} {xs : List V} (h : SqT K H a xs) : TyX K H (.ref a) (.type "tuple") := by
  rcases h with (h | ⟨o, h⟩) | ⟨o, its, n, h1, h2, _⟩
  · exact .base (.tup h)
  · exact .fTuple h
  · exact .kTuple h1 h2
/-- numbers, texts, True, False, None -/
def Leaf (d : PyData) : Prop := (∃ i, d = .int i) ∨ (∃ z, d = .str z) ∨ (∃ b, d = .bool b) ∨ d = .none
/-- such, lists and tuples of such, at most k deep -/
def okT : Nat → PyData → Prop
  | 0, d => Leaf d
  | k + 1, d => Leaf d ∨ ∃ ds, (d = .list ds ∨ d = .tuple ds) ∧ ds.length ≤ 1000 ∧ ∀ x ∈ ds, okT k x
def spSame (K : PySem.W.Frag) (k : Nat) : Sp := fun vs H Q _ => ∃ (x y : V) (d : PyData), vs = [x, y] ∧ Dp K H x d ∧ Dp K H y d ∧ okT k d ∧ ∀ H' : Hp, Same H H' → Q (.bl true) H'
theorem walk_zipT {K : PySem.W.Frag} {a b : Addr} {xs ys : List V} (hn : xs.length = ys.length) : Walk (RZ.ItzT K a b) xs.length (fun H => SqT K H a xs ∧ SqT K H b ys) (YPair (fun i => xs[i]?) (fun i => ys[i]?)) := by
  refine ⟨fun i _ hi q => ?_, fun _ q => ⟨xs, ys, q.1, q.2, .inl (Nat.le_refl _)⟩, fun i H v H' _ q y => ?_⟩
  · have h2 : i < ys.length := by omega
    exact ⟨xs, ys, xs[i], ys[i], q.1, q.2, by simp [hi], by simp [h2]⟩
  · obtain ⟨T, x, z, h1, h2, h3, h4, h5⟩ := y
    exact ⟨T, x, z, h1, h2, h3, h4 xs q.1, h5 ys q.2⟩
structure SameM (mg : Str → Option Value) : Prop where
  isi : mg "isinstance" = none
  lst : mg "list" = none
  tup : mg "tuple" = none
  len : mg "len" = none
  all : mg "all" = none
  zip : mg "zip" = none
  bool : mg "bool" = none
  int : mg "int" = none
  str : mg "str" = none
theorem boot_isi : bootBuiltins "isinstance" = some (.builtin "isinstance") := by decide +kernel
theorem boot_all' : bootBuiltins "all" = some (.builtin "all") := by decide +kernel
theorem boot_bool' : bootBuiltins "bool" = some (.type "bool") := by decide +kernel
theorem boot_int' : bootBuiltins "int" = some (.type "int") := by decide +kernel
theorem boot_str' : bootBuiltins "str" = some (.type "str") := by decide +kernel
theorem same_kp {H H1 : Hp} {v : V} {d : PyData} {K : PySem.W.Frag} (s : Same H H1) (h : Dp K H v d) : Dp K H1 v d := dp_same s d v h
section
variable {P : Program} {w : World} {K : PySem.W.Frag} {mg : Str → Option Value} {base : Heap}
abbrev nSame : List Str := ["_law_found", "_law_due", "_law_a", "_law_b"]
theorem scSame : FnScope nSame ["_law_found", "_law_due"] (defScope sSame) := ⟨rfl, rfl, rfl, by decide +kernel, rfl, by decide +kernel, by decide +kernel⟩
theorem same_len {K : PySem.W.Frag} {k : Nat} : ∀ vs H Q E, spSame K k vs H Q E → vs.length = ["_law_found", "_law_due"].length := fun vs H Q E h => by
  obtain ⟨x, y, d, rfl, _⟩ := h
  rfl
/-- two things of one class, not None -/
theorem same_flat {f : Addr} (M : SameM mg) {v : V} {t : Value} {b1 b2 b3 : Bool} (ht : ∀ H : Hp, TyX K H v t) (k1 : PySem.W.kitOne K t (.type "list") = some false) (k2 : PySem.W.kitOne K t (.type "tuple") = some false) (kb : PySem.W.kitOne K t (.type "bool") = some b1) (ki : PySem.W.kitOne K t (.type "int") = some b2) (ks : PySem.W.kitOne K t (.type "str") = some b3) (nn : v ≠ .non) (cm : scal v v = true) (cdv : Value) (A : Around) (outer : List Env) (s : Shared) (H : Hp) (Q : VK) (E : XK) (k : ∀ H' : Hp, Same H H' → Q (.bl true) H') :
    ∃ t, PSs (cxOf CX0 P w K mg base nSame "_law_same" (defScope sSame) f cdv A outer s H E).nox (defBody sSame) t ∧ t { nx := fun _ H' => Q .non H', rt := Q } (L2.start nSame [v, v]) H := by
  refine ⟨_, pss_cons (ps_if (pt_val (pe_callB call_isiT (by rfl) M.isi boot_isi (pa_cons (pv 1) (pa_cons (pe_tup (pa_cons (pe_bltn (v := .ty "list") (by rfl) M.lst boot_list' rfl) (pa_cons (pe_bltn (v := .ty "tuple") (by rfl) M.tup boot_tuple' rfl) pa_nil))) pa_nil)))) pss_never pss_nil)
    (pss_cons (ps_if (PW.pt (pw_or (pt_cmpR op_isN (pv 1) pe_non (nomark _)) (pw_or1 (pt_cmpR op_isN (pv 0) pe_non (nomark _))))) pss_never pss_nil)
    (pss_cons (ps_if (PW.pt (pw_or (pt_cmpR op_ne (pe_callB call_isi (by rfl) M.isi boot_isi (pa_cons (pv 0) (pa_cons (pe_bltn (v := .ty "bool") (by rfl) M.bool boot_bool' rfl) pa_nil))) (pe_callB call_isi (by rfl) M.isi boot_isi (pa_cons (pv 1) (pa_cons (pe_bltn (v := .ty "bool") (by rfl) M.bool boot_bool' rfl) pa_nil))) (nomark _))
      (pw_or1 (pt_cmpR op_ne (pe_callB call_isi (by rfl) M.isi boot_isi (pa_cons (pv 0) (pa_cons (pe_bltn (v := .ty "int") (by rfl) M.int boot_int' rfl) pa_nil))) (pe_callB call_isi (by rfl) M.isi boot_isi (pa_cons (pv 1) (pa_cons (pe_bltn (v := .ty "int") (by rfl) M.int boot_int' rfl) pa_nil))) (nomark _))))) pss_never pss_nil)
    (pss_one (ps_ret (pe_and (pe_cmpR op_eq (pe_callB call_isi (by rfl) M.isi boot_isi (pa_cons (pv 0) (pa_cons (pe_bltn (v := .ty "str") (by rfl) M.str boot_str' rfl) pa_nil))) (pe_callB call_isi (by rfl) M.isi boot_isi (pa_cons (pv 1) (pa_cons (pe_bltn (v := .ty "str") (by rfl) M.str boot_str' rfl) pa_nil))) (nomark _))
      (pe_one (pe_cmpR op_eq (pv 0) (pv 1) (nomark _)))))))), ?_⟩
  refine ⟨_, rfl, by show 2 ≤ sizeLine; decide, fun T hT => ?_⟩
  have s1 : Same H (upd H T (.tup [.ty "list", .ty "tuple"])) := same_new (Same.refl H) hT
  generalize hH1 : upd H T (.tup [.ty "list", .ty "tuple"]) = H1 at s1
  have hT1 : H1 T = some (.tup [.ty "list", .ty "tuple"]) := by rw [← hH1]; exact upd_same
  have ty : TyX K H1 v t := ht H1
  have en : decide (v = V.non) = false := decide_eq_false nn
  have er : ∀ b : Bool, decide (V.bl b = V.bl b) = true := fun b => decide_eq_true rfl
  refine ⟨v, T, [.ty "list", .ty "tuple"], t, [.type "list", .type "tuple"], false, rfl, hT1, .cons (.ty _) (.cons (.ty _) .nil), ty, kitAny_cons k1 (fun _ => kitAny_cons k2 (fun _ => kitAny_nil) (fun z => nomatch z)) (fun z => nomatch z), false, rfl, iteF ?_⟩
  refine ⟨_, rfl, rfl, false, congrArg V.bl en, iteF ⟨_, rfl, rfl, false, congrArg V.bl en, iteF ?_⟩⟩
  have ne : ∀ b : Bool, (!decide (V.bl b = V.bl b)) = false := fun b => by rw [er]; rfl
  refine ⟨_, rfl, v, .ty "bool", t, .type "bool", b1, rfl, .ty _, ty, kb, _, rfl, v, .ty "bool", t, .type "bool", b1, rfl, .ty _, ty, kb, rfl, false, congrArg V.bl (ne b1), iteF ?_⟩
  refine ⟨_, rfl, v, .ty "int", t, .type "int", b2, rfl, .ty _, ty, ki, _, rfl, v, .ty "int", t, .type "int", b2, rfl, .ty _, ty, ki, rfl, false, congrArg V.bl (ne b2), iteF ?_⟩
  refine ⟨_, rfl, v, .ty "str", t, .type "str", b3, rfl, .ty _, ty, ks, _, rfl, v, .ty "str", t, .type "str", b3, rfl, .ty _, ty, ks, rfl, true, congrArg V.bl (er b3), iteT ?_⟩
  refine ⟨_, rfl, _, rfl, cm, ?_⟩
  have e : decide (v = v) = true := decide_eq_true rfl
  rw [e]
  exact k H1 s1
/-- None and None -/
theorem same_non {f : Addr} (M : SameM mg) (cdv : Value) (A : Around) (outer : List Env) (s : Shared) (H : Hp) (Q : VK) (E : XK) (k : ∀ H' : Hp, Same H H' → Q (.bl true) H') :
    ∃ t, PSs (cxOf CX0 P w K mg base nSame "_law_same" (defScope sSame) f cdv A outer s H E).nox (defBody sSame) t ∧ t { nx := fun _ H' => Q .non H', rt := Q } (L2.start nSame [.non, .non]) H := by
  refine ⟨_, pss_cons (ps_if (pt_val (pe_callB call_isiT (by rfl) M.isi boot_isi (pa_cons (pv 1) (pa_cons (pe_tup (pa_cons (pe_bltn (v := .ty "list") (by rfl) M.lst boot_list' rfl) (pa_cons (pe_bltn (v := .ty "tuple") (by rfl) M.tup boot_tuple' rfl) pa_nil))) pa_nil)))) pss_never pss_nil)
    (pss_cons (ps_if (PW.pt (pw_or (pt_cmpR op_isN (pv 1) pe_non (nomark _)) (pw_or1 (pt_cmpR op_isN (pv 0) pe_non (nomark _))))) (pss_one (ps_ret (pe_and (pe_cmpR op_isN (pv 0) pe_non (nomark _)) (pe_one (pe_cmpR op_isN (pv 1) pe_non (nomark _)))))) pss_nil) pss_never), ?_⟩
  refine ⟨_, rfl, by show 2 ≤ sizeLine; decide, fun T hT => ?_⟩
  have s1 : Same H (upd H T (.tup [.ty "list", .ty "tuple"])) := same_new (Same.refl H) hT
  generalize hH1 : upd H T (.tup [.ty "list", .ty "tuple"]) = H1 at s1
  have hT1 : H1 T = some (.tup [.ty "list", .ty "tuple"]) := by rw [← hH1]; exact upd_same
  have k1 : PySem.W.kitOne K (.type "NoneType") (.type "list") = some false := kit_ty (by decide +kernel)
  have k2 : PySem.W.kitOne K (.type "NoneType") (.type "tuple") = some false := kit_ty (by decide +kernel)
  refine ⟨.non, T, [.ty "list", .ty "tuple"], .type "NoneType", [.type "list", .type "tuple"], false, rfl, hT1, .cons (.ty _) (.cons (.ty _) .nil), .base .non, kitAny_cons k1 (fun _ => kitAny_cons k2 (fun _ => kitAny_nil) (fun z => nomatch z)) (fun z => nomatch z), false, rfl, iteF ?_⟩
  refine ⟨_, rfl, rfl, true, rfl, iteT (iteT ?_)⟩
  exact ⟨_, rfl, rfl, true, rfl, iteT ⟨_, rfl, rfl, k H1 s1⟩⟩
theorem same_leaf {f : Addr} (M : SameM mg) (cdv : Value) (A : Around) (outer : List Env) (s : Shared) (H : Hp) (Q : VK) (E : XK) {x y : V} {d : PyData} (hd : Leaf d) (hx : Dp K H x d) (hy : Dp K H y d) (k : ∀ H' : Hp, Same H H' → Q (.bl true) H') :
    ∃ t, PSs (cxOf CX0 P w K mg base nSame "_law_same" (defScope sSame) f cdv A outer s H E).nox (defBody sSame) t ∧ t { nx := fun _ H' => Q .non H', rt := Q } (L2.start nSame [x, y]) H := by
  rcases hd with ⟨i, rfl⟩ | ⟨z, rfl⟩ | ⟨b, rfl⟩ | rfl
  · cases hx
    cases hy
    exact same_flat M (t := .type "int") (b1 := false) (b2 := true) (b3 := false) (fun _ => .base (.int i)) (kit_ty (by decide +kernel)) (kit_ty (by decide +kernel)) (kit_ty (by decide +kernel)) (kit_ty (by decide +kernel)) (kit_ty (by decide +kernel)) (fun z => by cases z) rfl cdv A outer s H Q E k
  · cases hx
    cases hy
    exact same_flat M (t := .type "str") (b1 := false) (b2 := false) (b3 := true) (fun _ => .base (.str z)) (kit_ty (by decide +kernel)) (kit_ty (by decide +kernel)) (kit_ty (by decide +kernel)) (kit_ty (by decide +kernel)) (kit_ty (by decide +kernel)) (fun z => by cases z) rfl cdv A outer s H Q E k
  · cases hx
    cases hy
    exact same_flat M (t := .type "bool") (b1 := true) (b2 := true) (b3 := false) (fun _ => .base (.bl b)) (kit_ty (by decide +kernel)) (kit_ty (by decide +kernel)) (kit_ty (by decide +kernel)) (kit_ty (by decide +kernel)) (kit_ty (by decide +kernel)) (fun z => by cases z) rfl cdv A outer s H Q E k
  · cases hx
    cases hy
    exact same_non M cdv A outer s H Q E k
theorem ok_same {f : Addr} {fd : FuncData} (F : Fun K "_law_same" "_law_same" sSame f fd) (M : SameM mg) (bS : Binds K fd ["_law_found", "_law_due"] []) (mS : mg "_law_same" = some (.ref f)) (kS : PySem.W.keepIn K (.ref f) = true) : ∀ k : Nat, FnOk P w K mg base CX0 (k + 1) f fd ["_law_found", "_law_due"] (spSame K k)
  | 0 => by
    refine F.ok scSame same_len (fun cdv A outer s H vs Q E hr h => ?_)
    obtain ⟨x, y, d, rfl, hx, hy, hd, kk⟩ := h
    exact same_leaf M cdv A outer s H Q E hd hx hy kk
  | k + 1 => by
    have GS : FnOk P w K mg base CX0 (k + 1) f fd ["_law_found", "_law_due"] (spSame K k) := ok_same F M bS mS kS k
    refine F.ok scSame same_len (fun cdv A outer s H vs Q E hr h => ?_)
    obtain ⟨x, y, d, rfl, hx, hy, hd, kk⟩ := h
    rcases hd with hd | ⟨ds, hd, hl, hok⟩
    · exact same_leaf M cdv A outer s H Q E hd hx hy kk
    · refine ⟨_, pss_cons (ps_if (pt_val (pe_callB call_isiT (by rfl) M.isi boot_isi (pa_cons (pv 1) (pa_cons (pe_tup (pa_cons (pe_bltn (v := .ty "list") (by rfl) M.lst boot_list' rfl) (pa_cons (pe_bltn (v := .ty "tuple") (by rfl) M.tup boot_tuple' rfl) pa_nil))) pa_nil))))
        (pss_cons (ps_if (PW.pt (pw_or (pt_cmpR op_ne (pe_callB call_isi (by rfl) M.isi boot_isi (pa_cons (pv 0) (pa_cons (pe_bltn (v := .ty "list") (by rfl) M.lst boot_list' rfl) pa_nil))) (pe_callB call_isi (by rfl) M.isi boot_isi (pa_cons (pv 1) (pa_cons (pe_bltn (v := .ty "list") (by rfl) M.lst boot_list' rfl) pa_nil))) (nomark _))
          (pw_or1 (pt_cmpR op_ne (pe_callB call_isi (by rfl) M.isi boot_isi (pa_cons (pv 0) (pa_cons (pe_bltn (v := .ty "tuple") (by rfl) M.tup boot_tuple' rfl) pa_nil))) (pe_callB call_isi (by rfl) M.isi boot_isi (pa_cons (pv 1) (pa_cons (pe_bltn (v := .ty "tuple") (by rfl) M.tup boot_tuple' rfl) pa_nil))) (nomark _))))) pss_never pss_nil)
        (pss_one (ps_ret (pe_and (pe_cmpR op_eq (pe_callB call_len_seq (by rfl) M.len PySem.boot_len (pa_cons (pv 0) pa_nil)) (pe_callB call_len_seq (by rfl) M.len PySem.boot_len (pa_cons (pv 1) pa_nil)) (nomark _))
          (pe_one (pe_callB (cr_all rfl) (by rfl) M.all boot_all' (pa_cons
            (pe_lc (own := [("_law_a", 2), ("_law_b", 3)]) (g := gTup K 2 (gCons (gName 2) (gCons (gName 3) gNil))) (tt := tYes) rfl scSame.nd (RZ.pi_zipA (by rfl) M.zip (pa_cons (pv 0) (pa_cons (pv 1) pa_nil)))
              (blkOk_by (own := [("_law_a", 2), ("_law_b", 3)]) (N := nSame) (sc := defScope sSame) (by decide +kernel)) (fun _ _ _ _ _ => pg_tup rfl (pgs_cons (pg_name (i := 2) scSame.nd rfl (Or.inl rfl)) (pgs_cons (pg_name (i := 3) scSame.nd rfl (Or.inl rfl)) pgs_nil)))
              (fun _ _ _ _ _ => pts_nil) (fun _ _ _ _ _ => pe_call GS hr rfl mS kS bS .nil pass0 (pa_cons (pv 2) (pa_cons (pv 3) pa_nil)))) pa_nil))))))) pss_nil) pss_never, ?_⟩
      refine ⟨_, rfl, by show 2 ≤ sizeLine; decide, fun T hT => ?_⟩
      have s1 : Same H (upd H T (.tup [.ty "list", .ty "tuple"])) := same_new (Same.refl H) hT
      generalize hH1 : upd H T (.tup [.ty "list", .ty "tuple"]) = H1 at s1
      have hT1 : H1 T = some (.tup [.ty "list", .ty "tuple"]) := by rw [← hH1]; exact upd_same
      have hx1 := dp_same s1 _ _ hx
      have hy1 := dp_same s1 _ _ hy
      have kll : PySem.W.kitOne K (.type "list") (.type "list") = some true := kit_ty (by decide +kernel)
      have klt : PySem.W.kitOne K (.type "list") (.type "tuple") = some false := kit_ty (by decide +kernel)
      have ktl : PySem.W.kitOne K (.type "tuple") (.type "list") = some false := kit_ty (by decide +kernel)
      have ktt : PySem.W.kitOne K (.type "tuple") (.type "tuple") = some true := kit_ty (by decide +kernel)
      have turn : ∀ {D : Addr} {xs ys : List V} {i : Nat} {x y : V} {H' H2 : Hp} {TT : Addr}, H1 D = none → DpAll K H1 xs ds → DpAll K H1 ys ds → xs[i]? = some x → ys[i]? = some y → Same H1 H2 → (∀ z, z ∈ ds → okT k z) →
          ∃ d, Dp K H2 x d ∧ Dp K H2 y d ∧ okT k d := fun {D xs ys i x y H' H2 TT} _ h1 h2 e1 e2 s2 ho => by
        obtain ⟨d1, g1, g2⟩ := dpa_at h1 e1
        obtain ⟨d2, g3, g4⟩ := dpa_at h2 e2
        rw [g1] at g3
        cases g3
        exact ⟨d1, dp_same s2 _ _ g2, dp_same s2 _ _ g4, ho d1 (List.mem_of_getElem? g1)⟩
      have allT : ∀ bs : List Bool, (∀ b ∈ bs, b = true) → bs.all id = true := fun bs hb => List.all_eq_true.mpr hb
      rcases hd with rfl | rfl
      · cases hx1 with
        | @lst a xs _ sx ax =>
          cases hy1 with
          | @lst b ys _ sy ay =>
            have lx := dpa_len ax
            have ly := dpa_len ay
            refine ⟨.ref b, T, [.ty "list", .ty "tuple"], .type "list", [.type "list", .type "tuple"], true, rfl, hT1, .cons (.ty _) (.cons (.ty _) .nil), ty_list sy, kitAny_cons kll (fun z => nomatch z) (fun _ => rfl), true, rfl, iteT ?_⟩
            refine ⟨_, rfl, .ref a, .ty "list", .type "list", .type "list", true, rfl, .ty _, ty_list sx, kll, _, rfl, .ref b, .ty "list", .type "list", .type "list", true, rfl, .ty _, ty_list sy, kll, rfl, _, rfl, iteF ?_⟩
            refine ⟨_, rfl, .ref a, .ty "tuple", .type "list", .type "tuple", false, rfl, .ty _, ty_list sx, klt, _, rfl, .ref b, .ty "tuple", .type "list", .type "tuple", false, rfl, .ty _, ty_list sy, klt, rfl, _, rfl, iteF ?_⟩
            have el : decide (V.int ((xs.length : Nat) : Int) = V.int ((ys.length : Nat) : Int)) = true := decide_eq_true (by rw [lx, ly])
            refine ⟨_, rfl, a, _, rfl, .inl sx, _, rfl, b, _, rfl, .inl sy, rfl, true, congrArg V.bl el, iteT ?_⟩
            refine ⟨_, rfl, _, rfl, a, b, xs, ys, rfl, .inl ⟨sx, sy, fun D hD => ?_⟩⟩
            refine lc_it (walk_zip (K := K) (a := a) (b := b) (xs := xs) (ys := ys) rfl) (fun i H' => ∃ bs : List Bool, H' D = some (.lst (bs.map V.bl)) ∧ bs.length = i ∧ (∀ z ∈ bs, z = true) ∧ Same H1 H')
              ⟨[], upd_same, rfl, fun z hz => absurd hz (by simp), same_new (Same.refl H1) hD⟩ (fun i H' _ ⟨_, _, _, _, s'⟩ => ⟨s'.seq sx, s'.seq sy⟩) ?_ ?_
            · rintro i v H' H2 hi ⟨bs, hB, bl, hb, s'⟩ ⟨U, x1, y1, rfl, hU, rfl, e1, e2⟩
              have s2 : Same H1 (upd H' U (.tup [x1, y1])) := same_new s' hU
              obtain ⟨d1, g1, g2, g3⟩ := turn (H' := H') (TT := U) hD ax ay e1 e2 s2 hok
              have hB2 : upd H' U (.tup [x1, y1]) D = some (.lst (bs.map V.bl)) := by rw [upd_ne (ne_of_none hB hU)]; exact hB
              refine ⟨U, _, rfl, SqT.of upd_same, rfl, _, _, rfl, _, _, rfl, rfl, rfl, _, rfl, _, rfl, x1, y1, d1, rfl, g1, g2, g3, fun H3 s3 => ?_⟩
              refine ⟨_, s3 _ _ hB2, by rw [List.length_map, sizeLine_eq]; omega, bs ++ [true], by rw [upd_same, List.map_append]; rfl, by rw [List.length_append, bl]; rfl, fun z hz => ?_, same_put (s2.trans s3) hD⟩
              rcases List.mem_append.mp hz with q | q
              · exact hb z q
              · simpa using q
            · rintro H' ⟨bs, hB, bl, hb, s'⟩
              refine ⟨D, bs, rfl, SqL.of hB, ?_⟩
              rw [allT bs hb]
              exact kk H' (s1.trans s')
      · cases hx1 with
        | @tup a xs _ sx ax =>
          cases hy1 with
          | @tup b ys _ sy ay =>
            have lx := dpa_len ax
            have ly := dpa_len ay
            have st : ∀ {H' : Hp} {c : Addr} {zs : List V}, Same H1 H' → SqT K H1 c zs → SqT K H' c zs := fun {H' c zs} s' h => by
              rcases h with (h | ⟨o, h⟩) | h
              · exact .inl (.inl (s' _ _ h))
              · exact .inl (.inr ⟨o, s' _ _ h⟩)
              · exact .inr h
            refine ⟨.ref b, T, [.ty "list", .ty "tuple"], .type "tuple", [.type "list", .type "tuple"], true, rfl, hT1, .cons (.ty _) (.cons (.ty _) .nil), ty_tup sy, kitAny_cons ktl (fun _ => kitAny_cons ktt (fun z => nomatch z) (fun _ => rfl)) (fun z => nomatch z), true, rfl, iteT ?_⟩
            refine ⟨_, rfl, .ref a, .ty "list", .type "tuple", .type "list", false, rfl, .ty _, ty_tup sx, ktl, _, rfl, .ref b, .ty "list", .type "tuple", .type "list", false, rfl, .ty _, ty_tup sy, ktl, rfl, _, rfl, iteF ?_⟩
            refine ⟨_, rfl, .ref a, .ty "tuple", .type "tuple", .type "tuple", true, rfl, .ty _, ty_tup sx, ktt, _, rfl, .ref b, .ty "tuple", .type "tuple", .type "tuple", true, rfl, .ty _, ty_tup sy, ktt, rfl, _, rfl, iteF ?_⟩
            have el : decide (V.int ((xs.length : Nat) : Int) = V.int ((ys.length : Nat) : Int)) = true := decide_eq_true (by rw [lx, ly])
            refine ⟨_, rfl, a, _, rfl, .inr sx, _, rfl, b, _, rfl, .inr sy, rfl, true, congrArg V.bl el, iteT ?_⟩
            refine ⟨_, rfl, _, rfl, a, b, xs, ys, rfl, .inr ⟨sx, sy, fun D hD => ?_⟩⟩
            refine lc_it (walk_zipT (K := K) (a := a) (b := b) (xs := xs) (ys := ys) (by omega)) (fun i H' => ∃ bs : List Bool, H' D = some (.lst (bs.map V.bl)) ∧ bs.length = i ∧ (∀ z ∈ bs, z = true) ∧ Same H1 H')
              ⟨[], upd_same, rfl, fun z hz => absurd hz (by simp), same_new (Same.refl H1) hD⟩ (fun i H' _ ⟨_, _, _, _, s'⟩ => ⟨st s' sx, st s' sy⟩) ?_ ?_
            · rintro i v H' H2 hi ⟨bs, hB, bl, hb, s'⟩ ⟨U, x1, y1, rfl, hU, rfl, e1, e2⟩
              have s2 : Same H1 (upd H' U (.tup [x1, y1])) := same_new s' hU
              obtain ⟨d1, g1, g2, g3⟩ := turn (H' := H') (TT := U) hD ax ay e1 e2 s2 hok
              have hB2 : upd H' U (.tup [x1, y1]) D = some (.lst (bs.map V.bl)) := by rw [upd_ne (ne_of_none hB hU)]; exact hB
              refine ⟨U, _, rfl, SqT.of upd_same, rfl, _, _, rfl, _, _, rfl, rfl, rfl, _, rfl, _, rfl, x1, y1, d1, rfl, g1, g2, g3, fun H3 s3 => ?_⟩
              refine ⟨_, s3 _ _ hB2, by rw [List.length_map, sizeLine_eq]; omega, bs ++ [true], by rw [upd_same, List.map_append]; rfl, by rw [List.length_append, bl]; rfl, fun z hz => ?_, same_put (s2.trans s3) hD⟩
              rcases List.mem_append.mp hz with q | q
              · exact hb z q
              · simpa using q
            · rintro H' ⟨bs, hB, bl, hb, s'⟩
              refine ⟨D, bs, rfl, SqL.of hB, ?_⟩
              rw [allT bs hb]
              exact kk H' (s1.trans s')
end
end KW


set_option Elab.async false
set_option maxRecDepth 100000
set_option maxHeartbeats 2000000
/-! The law's own: kind. -/
namespace KW
open PySem PySem.Spec PyProof.Rows L2 L2H HotX
abbrev sKind : Stmt := topS 46
abbrev kindNames : List Str := ["BadWeb", "BadRoom", "BadArrow", "BadFold", "BadPart", "BadNaming", "BadWalk", "BadBeat", "BadWindow", "BadTable", "Apart", "TooMany", "NotBack", "BadText", "BadName", "Taken", "Full", "Wide", "Used", "BadDeed", "Stopped", "BadPage", "NoWeb", "NoReader", "NoWalker", "NoName", "NothingLeft"]
/-- the classes, in the order of the names -/
structure KindM (K : PySem.W.Frag) (mg : Str → Option Value) (Cs : Nat → Addr) : Prop where
  n0 : mg "BadWeb" = some (.ref (Cs 0))
  n1 : mg "BadRoom" = some (.ref (Cs 1))
  n2 : mg "BadArrow" = some (.ref (Cs 2))
  n3 : mg "BadFold" = some (.ref (Cs 3))
  n4 : mg "BadPart" = some (.ref (Cs 4))
  n5 : mg "BadNaming" = some (.ref (Cs 5))
  n6 : mg "BadWalk" = some (.ref (Cs 6))
  n7 : mg "BadBeat" = some (.ref (Cs 7))
  n8 : mg "BadWindow" = some (.ref (Cs 8))
  n9 : mg "BadTable" = some (.ref (Cs 9))
  n10 : mg "Apart" = some (.ref (Cs 10))
  n11 : mg "TooMany" = some (.ref (Cs 11))
  n12 : mg "NotBack" = some (.ref (Cs 12))
  n13 : mg "BadText" = some (.ref (Cs 13))
  n14 : mg "BadName" = some (.ref (Cs 14))
  n15 : mg "Taken" = some (.ref (Cs 15))
  n16 : mg "Full" = some (.ref (Cs 16))
  n17 : mg "Wide" = some (.ref (Cs 17))
  n18 : mg "Used" = some (.ref (Cs 18))
  n19 : mg "BadDeed" = some (.ref (Cs 19))
  n20 : mg "Stopped" = some (.ref (Cs 20))
  n21 : mg "BadPage" = some (.ref (Cs 21))
  n22 : mg "NoWeb" = some (.ref (Cs 22))
  n23 : mg "NoReader" = some (.ref (Cs 23))
  n24 : mg "NoWalker" = some (.ref (Cs 24))
  n25 : mg "NoName" = some (.ref (Cs 25))
  n26 : mg "NothingLeft" = some (.ref (Cs 26))
  isi : mg "isinstance" = none
  zip : mg "zip" = none
/-- a refusal of the class at D: which of the names is its word -/
structure KindOf (K : PySem.W.Frag) (Cs : Nat → Addr) (D : Addr) (word : Str) : Prop where
  ex : ExcC K D
  xf : XfC K D
  nw : PySem.W.findIn K (.ref D) "word" = some none
  at_ : ∃ j, kindNames[j]? = some word ∧ ∀ i, i < 27 → PySem.W.kitOne K (.ref D) (.ref (Cs i)) = some (decide (i = j))
def spKind (K : PySem.W.Frag) (Cs : Nat → Addr) : Addr × Obj → Sp := fun p vs H Q _ => ∃ (D dd : Addr) (word : Str) (fs : List (Str × V)), vs = [.ref p.1] ∧ KindOf K Cs D word ∧ ExcP p D dd ∧ H dd = some (.xd fs) ∧ fs.lookup ("word" : Str) = some (.str word) ∧ ∀ H', Same H H' → Q (.str word) H'
theorem walk_zip1 {K : PySem.W.Frag} {a b : Addr} {xs ys : List V} (hn : xs.length = ys.length) : Walk (Itz1 K a b) xs.length (fun H => SqL K H a xs ∧ SqL K H b ys) (YPair (fun i => xs[i]?) (fun i => ys[i]?)) := by
  refine ⟨fun i _ hi q => ?_, fun _ q => ⟨xs, ys, q.1, q.2, rfl, hn.symm⟩, fun i H v H' _ q y => ?_⟩
  · have h2 : i < ys.length := by omega
    exact ⟨xs, ys, xs[i], ys[i], q.1, q.2, by simp [hi], by simp [h2]⟩
  · obtain ⟨T, x, z, h1, h2, h3, h4, h5⟩ := y
    exact ⟨T, x, z, h1, h2, h3, h4 xs q.1, h5 ys q.2⟩
abbrev nKind : List Str := ["_law_e", "_law_flags", "_law_words", "_law_found", "_law_one", "_law_here"]
theorem scKind : FnScope nKind ["_law_e"] (defScope sKind) := ⟨rfl, rfl, rfl, by decide +kernel, rfl, by decide +kernel, by decide +kernel⟩
theorem boot_isi2 : bootBuiltins "isinstance" = some (.builtin "isinstance") := by decide +kernel
theorem join_one (a z : Str) : Txt.join a [z] = z := by
  unfold Txt.join
  first
  | rfl
  | simp [Str.join]
section
variable {P : Program} {w : World} {K : PySem.W.Frag} {mg : Str → Option Value} {base : Heap}
theorem ok_kind {f : Addr} {fd : FuncData} {Cs : Nat → Addr} (F : Fun K "_law_kind" "_law_kind" sKind f fd) (M : KindM K mg Cs) : FnP P w K mg base CX0 1 f fd ["_law_e"] (spKind K Cs) := by
  refine okP F scKind (fun p vs H Q E h => ?_) (fun cdv A outer s H vs Q E p hot room h => ?_)
  · obtain ⟨D, dd, word, fs, rfl, _⟩ := h
    rfl
  · obtain ⟨D, dd, word, fs, rfl, KD, zp, hd, hw, k⟩ := h
    obtain ⟨j, hj, kb0⟩ := KD.at_
    have hp : p ∈ (cxH CX0 P w K mg base nKind "_law_kind" (defScope sKind) f cdv A outer s H E p).pn := List.mem_singleton.mpr rfl
    have hotC : HotC (cxH CX0 P w K mg base nKind "_law_kind" (defScope sKind) f cdv A outer s H E p) := ⟨p, ⟨hot.1, hot.2⟩, hp⟩
    obtain ⟨bb, hbb⟩ : ∃ bb : Nat → Bool, ∀ i, bb i = decide (i = j) := ⟨_, fun _ => rfl⟩
    have kb : ∀ i, i < 27 → PySem.W.kitOne K (.ref D) (.ref (Cs i)) = some (bb i) := fun i h => by rw [hbb]; exact kb0 i h
    refine ⟨_, (pss_cons (ps_set (i := 1) scKind.nd rfl (Or.inl rfl) (pe_lst (pa_cons (pe_callB (call_isP KD.ex zp hp) (by rfl) M.isi boot_isi2 (pa_cons (pv 0) (pa_cons (pe_glob (v := .ref (Cs 0)) rfl M.n0 rfl) pa_nil))) (pa_cons (pe_callB (call_isP KD.ex zp hp) (by rfl) M.isi boot_isi2 (pa_cons (pv 0) (pa_cons (pe_glob (v := .ref (Cs 1)) rfl M.n1 rfl) pa_nil))) (pa_cons (pe_callB (call_isP KD.ex zp hp) (by rfl) M.isi boot_isi2 (pa_cons (pv 0) (pa_cons (pe_glob (v := .ref (Cs 2)) rfl M.n2 rfl) pa_nil))) (pa_cons (pe_callB (call_isP KD.ex zp hp) (by rfl) M.isi boot_isi2 (pa_cons (pv 0) (pa_cons (pe_glob (v := .ref (Cs 3)) rfl M.n3 rfl) pa_nil))) pa_nil))))))
      (pss_cons (ps_set (i := 1) scKind.nd rfl (Or.inl rfl) (pe_op op_cat (pv 1) (pe_lst (pa_cons (pe_callB (call_isP KD.ex zp hp) (by rfl) M.isi boot_isi2 (pa_cons (pv 0) (pa_cons (pe_glob (v := .ref (Cs 4)) rfl M.n4 rfl) pa_nil))) (pa_cons (pe_callB (call_isP KD.ex zp hp) (by rfl) M.isi boot_isi2 (pa_cons (pv 0) (pa_cons (pe_glob (v := .ref (Cs 5)) rfl M.n5 rfl) pa_nil))) (pa_cons (pe_callB (call_isP KD.ex zp hp) (by rfl) M.isi boot_isi2 (pa_cons (pv 0) (pa_cons (pe_glob (v := .ref (Cs 6)) rfl M.n6 rfl) pa_nil))) (pa_cons (pe_callB (call_isP KD.ex zp hp) (by rfl) M.isi boot_isi2 (pa_cons (pv 0) (pa_cons (pe_glob (v := .ref (Cs 7)) rfl M.n7 rfl) pa_nil))) pa_nil)))))))
      (pss_cons (ps_set (i := 1) scKind.nd rfl (Or.inl rfl) (pe_op op_cat (pv 1) (pe_lst (pa_cons (pe_callB (call_isP KD.ex zp hp) (by rfl) M.isi boot_isi2 (pa_cons (pv 0) (pa_cons (pe_glob (v := .ref (Cs 8)) rfl M.n8 rfl) pa_nil))) (pa_cons (pe_callB (call_isP KD.ex zp hp) (by rfl) M.isi boot_isi2 (pa_cons (pv 0) (pa_cons (pe_glob (v := .ref (Cs 9)) rfl M.n9 rfl) pa_nil))) (pa_cons (pe_callB (call_isP KD.ex zp hp) (by rfl) M.isi boot_isi2 (pa_cons (pv 0) (pa_cons (pe_glob (v := .ref (Cs 10)) rfl M.n10 rfl) pa_nil))) (pa_cons (pe_callB (call_isP KD.ex zp hp) (by rfl) M.isi boot_isi2 (pa_cons (pv 0) (pa_cons (pe_glob (v := .ref (Cs 11)) rfl M.n11 rfl) pa_nil))) pa_nil)))))))
      (pss_cons (ps_set (i := 1) scKind.nd rfl (Or.inl rfl) (pe_op op_cat (pv 1) (pe_lst (pa_cons (pe_callB (call_isP KD.ex zp hp) (by rfl) M.isi boot_isi2 (pa_cons (pv 0) (pa_cons (pe_glob (v := .ref (Cs 12)) rfl M.n12 rfl) pa_nil))) (pa_cons (pe_callB (call_isP KD.ex zp hp) (by rfl) M.isi boot_isi2 (pa_cons (pv 0) (pa_cons (pe_glob (v := .ref (Cs 13)) rfl M.n13 rfl) pa_nil))) (pa_cons (pe_callB (call_isP KD.ex zp hp) (by rfl) M.isi boot_isi2 (pa_cons (pv 0) (pa_cons (pe_glob (v := .ref (Cs 14)) rfl M.n14 rfl) pa_nil))) (pa_cons (pe_callB (call_isP KD.ex zp hp) (by rfl) M.isi boot_isi2 (pa_cons (pv 0) (pa_cons (pe_glob (v := .ref (Cs 15)) rfl M.n15 rfl) pa_nil))) pa_nil)))))))
      (pss_cons (ps_set (i := 1) scKind.nd rfl (Or.inl rfl) (pe_op op_cat (pv 1) (pe_lst (pa_cons (pe_callB (call_isP KD.ex zp hp) (by rfl) M.isi boot_isi2 (pa_cons (pv 0) (pa_cons (pe_glob (v := .ref (Cs 16)) rfl M.n16 rfl) pa_nil))) (pa_cons (pe_callB (call_isP KD.ex zp hp) (by rfl) M.isi boot_isi2 (pa_cons (pv 0) (pa_cons (pe_glob (v := .ref (Cs 17)) rfl M.n17 rfl) pa_nil))) (pa_cons (pe_callB (call_isP KD.ex zp hp) (by rfl) M.isi boot_isi2 (pa_cons (pv 0) (pa_cons (pe_glob (v := .ref (Cs 18)) rfl M.n18 rfl) pa_nil))) (pa_cons (pe_callB (call_isP KD.ex zp hp) (by rfl) M.isi boot_isi2 (pa_cons (pv 0) (pa_cons (pe_glob (v := .ref (Cs 19)) rfl M.n19 rfl) pa_nil))) pa_nil)))))))
      (pss_cons (ps_set (i := 1) scKind.nd rfl (Or.inl rfl) (pe_op op_cat (pv 1) (pe_lst (pa_cons (pe_callB (call_isP KD.ex zp hp) (by rfl) M.isi boot_isi2 (pa_cons (pv 0) (pa_cons (pe_glob (v := .ref (Cs 20)) rfl M.n20 rfl) pa_nil))) (pa_cons (pe_callB (call_isP KD.ex zp hp) (by rfl) M.isi boot_isi2 (pa_cons (pv 0) (pa_cons (pe_glob (v := .ref (Cs 21)) rfl M.n21 rfl) pa_nil))) (pa_cons (pe_callB (call_isP KD.ex zp hp) (by rfl) M.isi boot_isi2 (pa_cons (pv 0) (pa_cons (pe_glob (v := .ref (Cs 22)) rfl M.n22 rfl) pa_nil))) (pa_cons (pe_callB (call_isP KD.ex zp hp) (by rfl) M.isi boot_isi2 (pa_cons (pv 0) (pa_cons (pe_glob (v := .ref (Cs 23)) rfl M.n23 rfl) pa_nil))) pa_nil)))))))
      (C8.pss_cut (ps_set (i := 1) scKind.nd rfl (Or.inl rfl) (pe_op op_cat (pv 1) (pe_lst (pa_cons (pe_callB (call_isP KD.ex zp hp) (by rfl) M.isi boot_isi2 (pa_cons (pv 0) (pa_cons (pe_glob (v := .ref (Cs 24)) rfl M.n24 rfl) pa_nil))) (pa_cons (pe_callB (call_isP KD.ex zp hp) (by rfl) M.isi boot_isi2 (pa_cons (pv 0) (pa_cons (pe_glob (v := .ref (Cs 25)) rfl M.n25 rfl) pa_nil))) (pa_cons (pe_callB (call_isP KD.ex zp hp) (by rfl) M.isi boot_isi2 (pa_cons (pv 0) (pa_cons (pe_glob (v := .ref (Cs 26)) rfl M.n26 rfl) pa_nil))) pa_nil))))))
      (pss_cons (ps_set (i := 2) scKind.nd rfl (Or.inl rfl) pe_str)
      (pss_cons (ps_set (i := 2) scKind.nd rfl (Or.inl rfl) (pe_op op_add_str (pv 2) pe_str))
      (C8.pss_cut (ps_set (i := 2) scKind.nd rfl (Or.inl rfl) (pe_op op_add_str (pv 2) pe_str))
      (pss_cons (ps_set (i := 3) scKind.nd rfl (Or.inl rfl) (pe_m1 PySem.F.slot_str_join PySem.F.type_str_join mt_join pe_str (pe_lcF (own := [("_law_one", 4), ("_law_here", 5)]) (g := gTup K 2 (gCons (gName 4) (gCons (gName 5) gNil))) hotC scKind.nd
          (pi_zipF (by rfl) M.zip (pa_cons (pe_m1 PySem.F.slot_str_split PySem.F.type_str_split mt_split (pv 2) pe_str) (pa_cons (pv 1) pa_nil))) (blkOk_by (own := [("_law_one", 4), ("_law_here", 5)]) (N := nKind) (sc := defScope sKind) (by decide +kernel))
          (fun _ _ _ _ _ hb => pg_tupF hb (pgs_cons (pg_name (i := 4) scKind.nd rfl (Or.inl rfl)) (pgs_cons (pg_name (i := 5) scKind.nd rfl (Or.inl rfl)) pgs_nil))) (fun _ _ _ _ _ _ => pts_one (pt_val (pv 5))) (fun _ _ _ _ _ _ => pv 4))))
      (pss_one (ps_ret (pe_ifExp (pt_cmpR op_eq (pe_fldP KD.xf KD.nw zp hp (pv 0)) (pv 3) (nomark _)) (pv 3) (pe_op op_add_str (pv 3) pe_str))))))))))))))), ?_⟩
    refine ⟨_, rfl, .ref (Cs 0), .ref (Cs 0), _, fs, rfl, (fun u r => r), kb 0 (by decide), hd, _, rfl, .ref (Cs 1), .ref (Cs 1), _, fs, rfl, (fun u r => r), kb 1 (by decide), hd, _, rfl, .ref (Cs 2), .ref (Cs 2), _, fs, rfl, (fun u r => r), kb 2 (by decide), hd, _, rfl, .ref (Cs 3), .ref (Cs 3), _, fs, rfl, (fun u r => r), kb 3 (by decide), hd, by show 4 ≤ sizeLine; decide, fun l0 m0 => ?_⟩
    have s0 : Same H (upd H l0 (.lst [.bl (bb 0), .bl (bb 1), .bl (bb 2), .bl (bb 3)])) := same_new (Same.refl H) m0
    have f0 : upd H l0 (.lst [.bl (bb 0), .bl (bb 1), .bl (bb 2), .bl (bb 3)]) l0 = some (.lst [.bl (bb 0), .bl (bb 1), .bl (bb 2), .bl (bb 3)]) := upd_same
    generalize upd H l0 (.lst [.bl (bb 0), .bl (bb 1), .bl (bb 2), .bl (bb 3)]) = H0 at s0 f0
    have hd0 := s0 _ _ hd
    generalize hL0 : ([.bl (bb 0), .bl (bb 1), .bl (bb 2), .bl (bb 3)] : List V) = L0 at f0
    have hll0 : L0.length = 4 := by rw [← hL0]; rfl
    refine ⟨_, rfl, _, rfl, .ref (Cs 4), .ref (Cs 4), _, fs, rfl, (fun u r => r), kb 4 (by decide), hd0, _, rfl, .ref (Cs 5), .ref (Cs 5), _, fs, rfl, (fun u r => r), kb 5 (by decide), hd0, _, rfl, .ref (Cs 6), .ref (Cs 6), _, fs, rfl, (fun u r => r), kb 6 (by decide), hd0, _, rfl, .ref (Cs 7), .ref (Cs 7), _, fs, rfl, (fun u r => r), kb 7 (by decide), hd0, by show 4 ≤ sizeLine; decide, fun a1 m1 => ?_⟩
    have g1 : upd H0 a1 (.lst [.bl (bb 4), .bl (bb 5), .bl (bb 6), .bl (bb 7)]) a1 = some (.lst [.bl (bb 4), .bl (bb 5), .bl (bb 6), .bl (bb 7)]) := upd_same
    have t1 : Same H0 (upd H0 a1 (.lst [.bl (bb 4), .bl (bb 5), .bl (bb 6), .bl (bb 7)])) := same_new (Same.refl H0) m1
    generalize upd H0 a1 (.lst [.bl (bb 4), .bl (bb 5), .bl (bb 6), .bl (bb 7)]) = G1 at g1 t1
    refine ⟨l0, a1, _, _, rfl, rfl, t1 _ _ f0, g1, by rw [sizeLine_eq, hll0]; simp only [List.length_cons, List.length_nil]; omega, fun l1 o1 => ?_⟩
    have s1 : Same H (upd G1 l1 (.lst (L0 ++ [.bl (bb 4), .bl (bb 5), .bl (bb 6), .bl (bb 7)]))) := same_new (s0.trans t1) o1
    have f1 : upd G1 l1 (.lst (L0 ++ [.bl (bb 4), .bl (bb 5), .bl (bb 6), .bl (bb 7)])) l1 = some (.lst (L0 ++ [.bl (bb 4), .bl (bb 5), .bl (bb 6), .bl (bb 7)])) := upd_same
    generalize upd G1 l1 (.lst (L0 ++ [.bl (bb 4), .bl (bb 5), .bl (bb 6), .bl (bb 7)])) = H1 at s1 f1
    have hd1 := s1 _ _ hd
    generalize hL1 : (L0 ++ [.bl (bb 4), .bl (bb 5), .bl (bb 6), .bl (bb 7)]) = L1 at f1
    have hll1 : L1.length = 8 := by rw [← hL1, List.length_append, hll0]; rfl
    refine ⟨_, rfl, _, rfl, .ref (Cs 8), .ref (Cs 8), _, fs, rfl, (fun u r => r), kb 8 (by decide), hd1, _, rfl, .ref (Cs 9), .ref (Cs 9), _, fs, rfl, (fun u r => r), kb 9 (by decide), hd1, _, rfl, .ref (Cs 10), .ref (Cs 10), _, fs, rfl, (fun u r => r), kb 10 (by decide), hd1, _, rfl, .ref (Cs 11), .ref (Cs 11), _, fs, rfl, (fun u r => r), kb 11 (by decide), hd1, by show 4 ≤ sizeLine; decide, fun a2 m2 => ?_⟩
    have g2 : upd H1 a2 (.lst [.bl (bb 8), .bl (bb 9), .bl (bb 10), .bl (bb 11)]) a2 = some (.lst [.bl (bb 8), .bl (bb 9), .bl (bb 10), .bl (bb 11)]) := upd_same
    have t2 : Same H1 (upd H1 a2 (.lst [.bl (bb 8), .bl (bb 9), .bl (bb 10), .bl (bb 11)])) := same_new (Same.refl H1) m2
    generalize upd H1 a2 (.lst [.bl (bb 8), .bl (bb 9), .bl (bb 10), .bl (bb 11)]) = G2 at g2 t2
    refine ⟨l1, a2, _, _, rfl, rfl, t2 _ _ f1, g2, by rw [sizeLine_eq, hll1]; simp only [List.length_cons, List.length_nil]; omega, fun l2 o2 => ?_⟩
    have s2 : Same H (upd G2 l2 (.lst (L1 ++ [.bl (bb 8), .bl (bb 9), .bl (bb 10), .bl (bb 11)]))) := same_new (s1.trans t2) o2
    have f2 : upd G2 l2 (.lst (L1 ++ [.bl (bb 8), .bl (bb 9), .bl (bb 10), .bl (bb 11)])) l2 = some (.lst (L1 ++ [.bl (bb 8), .bl (bb 9), .bl (bb 10), .bl (bb 11)])) := upd_same
    generalize upd G2 l2 (.lst (L1 ++ [.bl (bb 8), .bl (bb 9), .bl (bb 10), .bl (bb 11)])) = H2 at s2 f2
    have hd2 := s2 _ _ hd
    generalize hL2 : (L1 ++ [.bl (bb 8), .bl (bb 9), .bl (bb 10), .bl (bb 11)]) = L2 at f2
    have hll2 : L2.length = 12 := by rw [← hL2, List.length_append, hll1]; rfl
    refine ⟨_, rfl, _, rfl, .ref (Cs 12), .ref (Cs 12), _, fs, rfl, (fun u r => r), kb 12 (by decide), hd2, _, rfl, .ref (Cs 13), .ref (Cs 13), _, fs, rfl, (fun u r => r), kb 13 (by decide), hd2, _, rfl, .ref (Cs 14), .ref (Cs 14), _, fs, rfl, (fun u r => r), kb 14 (by decide), hd2, _, rfl, .ref (Cs 15), .ref (Cs 15), _, fs, rfl, (fun u r => r), kb 15 (by decide), hd2, by show 4 ≤ sizeLine; decide, fun a3 m3 => ?_⟩
    have g3 : upd H2 a3 (.lst [.bl (bb 12), .bl (bb 13), .bl (bb 14), .bl (bb 15)]) a3 = some (.lst [.bl (bb 12), .bl (bb 13), .bl (bb 14), .bl (bb 15)]) := upd_same
    have t3 : Same H2 (upd H2 a3 (.lst [.bl (bb 12), .bl (bb 13), .bl (bb 14), .bl (bb 15)])) := same_new (Same.refl H2) m3
    generalize upd H2 a3 (.lst [.bl (bb 12), .bl (bb 13), .bl (bb 14), .bl (bb 15)]) = G3 at g3 t3
    refine ⟨l2, a3, _, _, rfl, rfl, t3 _ _ f2, g3, by rw [sizeLine_eq, hll2]; simp only [List.length_cons, List.length_nil]; omega, fun l3 o3 => ?_⟩
    have s3 : Same H (upd G3 l3 (.lst (L2 ++ [.bl (bb 12), .bl (bb 13), .bl (bb 14), .bl (bb 15)]))) := same_new (s2.trans t3) o3
    have f3 : upd G3 l3 (.lst (L2 ++ [.bl (bb 12), .bl (bb 13), .bl (bb 14), .bl (bb 15)])) l3 = some (.lst (L2 ++ [.bl (bb 12), .bl (bb 13), .bl (bb 14), .bl (bb 15)])) := upd_same
    generalize upd G3 l3 (.lst (L2 ++ [.bl (bb 12), .bl (bb 13), .bl (bb 14), .bl (bb 15)])) = H3 at s3 f3
    have hd3 := s3 _ _ hd
    generalize hL3 : (L2 ++ [.bl (bb 12), .bl (bb 13), .bl (bb 14), .bl (bb 15)]) = L3 at f3
    have hll3 : L3.length = 16 := by rw [← hL3, List.length_append, hll2]; rfl
    refine ⟨_, rfl, _, rfl, .ref (Cs 16), .ref (Cs 16), _, fs, rfl, (fun u r => r), kb 16 (by decide), hd3, _, rfl, .ref (Cs 17), .ref (Cs 17), _, fs, rfl, (fun u r => r), kb 17 (by decide), hd3, _, rfl, .ref (Cs 18), .ref (Cs 18), _, fs, rfl, (fun u r => r), kb 18 (by decide), hd3, _, rfl, .ref (Cs 19), .ref (Cs 19), _, fs, rfl, (fun u r => r), kb 19 (by decide), hd3, by show 4 ≤ sizeLine; decide, fun a4 m4 => ?_⟩
    have g4 : upd H3 a4 (.lst [.bl (bb 16), .bl (bb 17), .bl (bb 18), .bl (bb 19)]) a4 = some (.lst [.bl (bb 16), .bl (bb 17), .bl (bb 18), .bl (bb 19)]) := upd_same
    have t4 : Same H3 (upd H3 a4 (.lst [.bl (bb 16), .bl (bb 17), .bl (bb 18), .bl (bb 19)])) := same_new (Same.refl H3) m4
    generalize upd H3 a4 (.lst [.bl (bb 16), .bl (bb 17), .bl (bb 18), .bl (bb 19)]) = G4 at g4 t4
    refine ⟨l3, a4, _, _, rfl, rfl, t4 _ _ f3, g4, by rw [sizeLine_eq, hll3]; simp only [List.length_cons, List.length_nil]; omega, fun l4 o4 => ?_⟩
    have s4 : Same H (upd G4 l4 (.lst (L3 ++ [.bl (bb 16), .bl (bb 17), .bl (bb 18), .bl (bb 19)]))) := same_new (s3.trans t4) o4
    have f4 : upd G4 l4 (.lst (L3 ++ [.bl (bb 16), .bl (bb 17), .bl (bb 18), .bl (bb 19)])) l4 = some (.lst (L3 ++ [.bl (bb 16), .bl (bb 17), .bl (bb 18), .bl (bb 19)])) := upd_same
    generalize upd G4 l4 (.lst (L3 ++ [.bl (bb 16), .bl (bb 17), .bl (bb 18), .bl (bb 19)])) = H4 at s4 f4
    have hd4 := s4 _ _ hd
    generalize hL4 : (L3 ++ [.bl (bb 16), .bl (bb 17), .bl (bb 18), .bl (bb 19)]) = L4 at f4
    have hll4 : L4.length = 20 := by rw [← hL4, List.length_append, hll3]; rfl
    refine ⟨_, rfl, _, rfl, .ref (Cs 20), .ref (Cs 20), _, fs, rfl, (fun u r => r), kb 20 (by decide), hd4, _, rfl, .ref (Cs 21), .ref (Cs 21), _, fs, rfl, (fun u r => r), kb 21 (by decide), hd4, _, rfl, .ref (Cs 22), .ref (Cs 22), _, fs, rfl, (fun u r => r), kb 22 (by decide), hd4, _, rfl, .ref (Cs 23), .ref (Cs 23), _, fs, rfl, (fun u r => r), kb 23 (by decide), hd4, by show 4 ≤ sizeLine; decide, fun a5 m5 => ?_⟩
    have g5 : upd H4 a5 (.lst [.bl (bb 20), .bl (bb 21), .bl (bb 22), .bl (bb 23)]) a5 = some (.lst [.bl (bb 20), .bl (bb 21), .bl (bb 22), .bl (bb 23)]) := upd_same
    have t5 : Same H4 (upd H4 a5 (.lst [.bl (bb 20), .bl (bb 21), .bl (bb 22), .bl (bb 23)])) := same_new (Same.refl H4) m5
    generalize upd H4 a5 (.lst [.bl (bb 20), .bl (bb 21), .bl (bb 22), .bl (bb 23)]) = G5 at g5 t5
    refine ⟨l4, a5, _, _, rfl, rfl, t5 _ _ f4, g5, by rw [sizeLine_eq, hll4]; simp only [List.length_cons, List.length_nil]; omega, fun l5 o5 => ?_⟩
    have s5 : Same H (upd G5 l5 (.lst (L4 ++ [.bl (bb 20), .bl (bb 21), .bl (bb 22), .bl (bb 23)]))) := same_new (s4.trans t5) o5
    have f5 : upd G5 l5 (.lst (L4 ++ [.bl (bb 20), .bl (bb 21), .bl (bb 22), .bl (bb 23)])) l5 = some (.lst (L4 ++ [.bl (bb 20), .bl (bb 21), .bl (bb 22), .bl (bb 23)])) := upd_same
    generalize upd G5 l5 (.lst (L4 ++ [.bl (bb 20), .bl (bb 21), .bl (bb 22), .bl (bb 23)])) = H5 at s5 f5
    have hd5 := s5 _ _ hd
    generalize hL5 : (L4 ++ [.bl (bb 20), .bl (bb 21), .bl (bb 22), .bl (bb 23)]) = L5 at f5
    have hll5 : L5.length = 24 := by rw [← hL5, List.length_append, hll4]; rfl
    refine ⟨fun σ' H' => ∃ (lf : Addr), σ' = [some (.ref p.1), some (.ref lf), none, none, none, none] ∧ H' lf = some (.lst ((List.range 27).map fun i => V.bl (bb i))) ∧ Same H H', ?_, ?_⟩
    rotate_left
    · rintro σ6 H6 ⟨l6, rfl, fl, s6⟩
      have hj27 : j < 27 := (List.getElem?_eq_some_iff.mp hj).1
      refine ⟨_, rfl, _, _, rfl, rfl, by decide +kernel, ?_⟩
      refine ⟨fun σ' H' => ∃ wd : Str, σ' = [some (.ref p.1), some (.ref l6), some (.str wd), none, none, none] ∧ H' l6 = some (.lst ((List.range 27).map fun i => V.bl (bb i))) ∧ Same H H' ∧ Txt.split wd " " = kindNames ∧ wd.length + 2 ≤ sizeLine, ⟨_, rfl, _, _, rfl, rfl, by decide +kernel, _, rfl, fl, s6, by decide +kernel, by decide +kernel⟩, ?_⟩
      clear fl s6
      rintro σ7 H6 ⟨wd, rfl, fl, s6, hsp, hwl⟩
      refine ⟨⟨_, rfl⟩, _, rfl, ⟨_, rfl⟩, _, _, rfl, rfl, by decide +kernel, hwl, fun l8 n8 => ?_⟩
      rw [hsp]
      have small : ∀ z ∈ kindNames, z.length ≤ 20 := by decide +kernel
      have sw := small word (List.mem_of_getElem? hj)
      have hlen : kindNames.length = 27 := rfl
      clear small
      generalize kindNames = kn at hj hlen ⊢
      generalize hL6 : ((List.range 27).map fun i => V.bl (bb i)) = L6 at fl
      have hll6 : L6.length = 27 := by rw [← hL6, List.length_map, List.length_range]
      have flat : ∀ i, i < 27 → L6[i]? = some (V.bl (bb i)) := fun i hi => by
        rw [← hL6, List.getElem?_map, List.getElem?_range hi]
        rfl
      have klen : (kn.map V.str).length = 27 := by rw [List.length_map, hlen]
      have s8 : Same H6 (upd H6 l8 (.lst (kn.map V.str))) := same_new (Same.refl H6) n8
      have f8 : upd H6 l8 (.lst (kn.map V.str)) l8 = some (.lst (kn.map V.str)) := upd_same
      generalize upd H6 l8 (.lst (kn.map V.str)) = H8 at s8 f8
      refine ⟨_, rfl, l8, l6, _, _, rfl, SqL.of f8, SqL.of (s8 _ _ fl), fun D9 n9 => ?_⟩
      refine lc_it (walk_zip1 (K := K) (a := l8) (b := l6) (xs := kn.map V.str) (ys := L6) (by rw [klen, hll6])) (fun i H' => H' D9 = some (.lst (if j < i then [V.str word] else [])) ∧ Same H8 H')
        ⟨upd_same, same_new (Same.refl H8) n9⟩ (fun i H' _ ⟨_, s'⟩ => ⟨SqL.of (s' _ _ f8), SqL.of (s' _ _ (s8 _ _ fl))⟩) ?_ ?_
      · rintro i v H' H2 hi ⟨hD', s'⟩ ⟨U, x1, y1, rfl, hU, rfl, e1, e2⟩
        have hi27 : i < 27 := by rw [← klen]; exact hi
        have e2 : V.bl (bb i) = y1 := by
          have z : L6[i]? = some y1 := e2
          rw [flat i hi27] at z
          exact Option.some.inj z
        subst e2
        have hD2 : upd H' U (.tup [x1, .bl (bb i)]) D9 = some (.lst (if j < i then [V.str word] else [])) := by rw [upd_ne (ne_of_none hD' hU)]; exact hD'
        refine ⟨U, _, rfl, SqT.of upd_same, rfl, _, _, rfl, _, _, rfl, rfl, rfl, _, rfl, _, rfl, ite2 (fun e => ?_) (fun e => ?_)⟩
        · have e : i = j := by
            rw [hbb] at e
            exact of_decide_eq_true e
          subst e
          have ex : V.str word = x1 := by
            have z : (kn.map V.str)[i]? = some x1 := e1
            rw [List.getElem?_map, hj] at z
            exact Option.some.inj z
          subst ex
          rw [if_neg (Nat.lt_irrefl i)] at hD2
          refine ⟨_, rfl, _, hD2, by show 0 < sizeLine; decide, ?_, same_put (same_new s' hU) n9⟩
          rw [upd_same, if_pos (Nat.lt_succ_self i)]
          rfl
        · have e : ¬ i = j := fun z => e (by rw [hbb]; exact decide_eq_true z)
          refine ⟨?_, same_new s' hU⟩
          rw [hD2]
          by_cases h1 : j < i
          · rw [if_pos h1, if_pos (by omega)]
          · rw [if_neg h1, if_neg (by omega)]
      · rintro H9 ⟨hD9, s9⟩
        rw [klen, if_pos hj27] at hD9
        have s19 : Same H H9 := s6.trans (s8.trans s9)
        have hbig : (([word] : List Str).map (·.length)).sum + ([word] : List Str).length * ("+" : Str).length ≤ 16777216 := by
          have z : ("+" : Str).length = 1 := by decide +kernel
          simp only [List.map_cons, List.map_nil, List.sum_cons, List.sum_nil, List.length_cons, List.length_nil, z]
          omega
        refine ⟨_, D9, [word], rfl, rfl, .inl (SqL.of hD9), hbig, ?_⟩
        rw [join_one]
        refine ⟨_, rfl, rfl, fs, _, s19 _ _ hd, hw, _, rfl, rfl, true, congrArg V.bl (decide_eq_true rfl), iteT ⟨_, rfl, k _ s19⟩⟩
    refine ⟨_, rfl, _, rfl, .ref (Cs 24), .ref (Cs 24), _, fs, rfl, (fun u r => r), kb 24 (by decide), hd5, _, rfl, .ref (Cs 25), .ref (Cs 25), _, fs, rfl, (fun u r => r), kb 25 (by decide), hd5, _, rfl, .ref (Cs 26), .ref (Cs 26), _, fs, rfl, (fun u r => r), kb 26 (by decide), hd5, by show 3 ≤ sizeLine; decide, fun a6 m6 => ?_⟩
    have g6 : upd H5 a6 (.lst [.bl (bb 24), .bl (bb 25), .bl (bb 26)]) a6 = some (.lst [.bl (bb 24), .bl (bb 25), .bl (bb 26)]) := upd_same
    have t6 : Same H5 (upd H5 a6 (.lst [.bl (bb 24), .bl (bb 25), .bl (bb 26)])) := same_new (Same.refl H5) m6
    generalize upd H5 a6 (.lst [.bl (bb 24), .bl (bb 25), .bl (bb 26)]) = G6 at g6 t6
    refine ⟨l5, a6, _, _, rfl, rfl, t6 _ _ f5, g6, by rw [sizeLine_eq, hll5]; simp only [List.length_cons, List.length_nil]; omega, fun l6 o6 => ?_⟩
    have s6 : Same H (upd G6 l6 (.lst (L5 ++ [.bl (bb 24), .bl (bb 25), .bl (bb 26)]))) := same_new (s5.trans t6) o6
    have f6 : upd G6 l6 (.lst (L5 ++ [.bl (bb 24), .bl (bb 25), .bl (bb 26)])) l6 = some (.lst (L5 ++ [.bl (bb 24), .bl (bb 25), .bl (bb 26)])) := upd_same
    generalize upd G6 l6 (.lst (L5 ++ [.bl (bb 24), .bl (bb 25), .bl (bb 26)])) = H6 at s6 f6
    have hd6 := s6 _ _ hd
    generalize hL6 : (L5 ++ [.bl (bb 24), .bl (bb 25), .bl (bb 26)]) = L6 at f6
    have hll6 : L6.length = 27 := by rw [← hL6, List.length_append, hll5]; rfl
    have eL6 : L6 = (List.range 27).map fun i => V.bl (bb i) := by rw [← hL6, ← hL5, ← hL4, ← hL3, ← hL2, ← hL1, ← hL0]; rfl
    exact ⟨l6, rfl, by rw [f6, eL6], s6⟩
end
end KW


set_option Elab.async false
set_option maxRecDepth 100000
set_option maxHeartbeats 2000000
/-! The law's own: told. -/
namespace KW
open PySem PySem.Spec PyProof.Rows L2 L2H LamX
abbrev sTold : Stmt := topS 47
abbrev nTold : List Str := ["_law_ask", "_law_e"]
theorem scTold : FnScope nTold ["_law_ask"] (defScope sTold) := ⟨rfl, rfl, rfl, by decide +kernel, rfl, by decide +kernel, by decide +kernel⟩
/-- which clause a refusal of the class at D comes to -/
structure ToldOf (K : PySem.W.Frag) (Cs : Nat → Addr) (CL CF D : Addr) (cl : Nat) : Prop where
  c1 : PySem.W.exmAny K (.ref D) [.ref (Cs 0), .ref (Cs 6), .ref (Cs 13)] = some (decide (cl = 1))
  c2 : PySem.W.exmAny K (.ref D) [.ref (Cs 9), .ref (Cs 21)] = some (decide (cl = 2))
  c3 : PySem.W.exmAny K (.ref D) [.ref (Cs 11)] = some (decide (cl = 3))
  c4 : PySem.W.exmAny K (.ref D) [.ref (Cs 18)] = some false
  c5 : PySem.W.exmAny K (.ref D) [.ref (Cs 20)] = some false
  c6 : PySem.W.exmAny K (.ref D) [.ref CL] = some false
  c7 : PySem.W.exmAny K (.ref D) [.ref CF, .ref (Cs 26)] = some true
/-- the field that a clause tells -/
def fldOf : Nat → Option Str
  | 1 => some "at"
  | 2 => some "row"
  | 3 => some "most"
  | _ => none
/-- what is told of the refusal: its word and v -/
def TellsV (K : PySem.W.Frag) (D : Addr) (fs : List (Str × V)) (v : V) : Option Str → Prop
  | none => v = .non
  | some n => PySem.W.findIn K (.ref D) n = some none ∧ fs.lookup n = some v
/-- what told makes of a refusal -/
def EToldN (K : PySem.W.Frag) (Cs : Nat → Addr) (CL CF : Addr) (Q : VK) : XK := fun cls d H => ∃ (D dd : Addr) (word : Str) (fs : List (Str × V)) (v : V) (cl : Nat), cls = .ref D ∧ d = some dd ∧ KindOf K Cs D word ∧ ToldOf K Cs CL CF D cl ∧ H dd = some (.xd fs) ∧ fs.lookup ("word" : Str) = some (.str word) ∧
  TellsV K D fs v (fldOf cl) ∧ ∀ H', Same H H' → ∀ T, H' T = none → Q (.ref T) (upd H' T (.tup [.str word, v]))
def TToldN (K : PySem.W.Frag) (Cs : Nat → Addr) (CL CF : Addr) : (XK → Hp → VK → Prop) → Hp → VK → Prop := fun tl H Q =>
  tl (EToldN K Cs CL CF Q) H fun v H1 => [V.str "told", v].length ≤ sizeLine ∧ ∀ p, H1 p = none → Q (.ref p) (upd H1 p (.tup [.str "told", v]))
def tsSuite (K : PySem.W.Frag) (Cs : Nat → Addr) (fld : Option Str) (a : Addr) (cls : Value) (d : Option Addr) : TS := fun Dn σ H => ∃ (D dd : Addr) (word : Str) (fs : List (Str × V)) (v : V), cls = .ref D ∧ d = some dd ∧ KindOf K Cs D word ∧ (1 < σ.length → σ[1]? = some (some (.ref a))) ∧ H dd = some (.xd fs) ∧ fs.lookup ("word" : Str) = some (.str word) ∧
  TellsV K D fs v fld ∧ ∀ H', Same H H' → ∀ T, H' T = none → Dn.rt (.ref T) (upd H' T (.tup [.str word, v]))
def tsNever (_ : Addr) (_ : Value) (_ : Option Addr) : TS := fun _ _ _ => False
theorem pss_no {X : Cx} {b : List Stmt} {a : Addr} {c : Value} {d : Option Addr} : PSs X b (tsNever a c d) := ⟨fun _ _ _ _ _ _ z => z.elim⟩
section
variable {X : Cx} {Cs : Nat → Addr} {fK : Addr} {fdK : FuncData} {a : Addr} {oe : Obj} {cls : Value} {d : Option Addr} {pn : List (Addr × Obj)} {p1 p2 p3 p4 p5 p6 p7 : Pos} {kk j : Nat}
/-- kind(e) in a suite -/
theorem suite_kind (FK : FnP X.prog X.w X.K X.mg X.base CX0 1 fK fdK ["_law_e"] (spKind X.K Cs)) (room : Room 1 X.A) (bK : Binds X.K fdK ["_law_e"] []) (mK : X.mg "_law_kind" = some (.ref fK)) (kK : PySem.W.keepIn X.K (.ref fK) = true) (hN : X.N[1]? = some ("_law_e" : Str)) (hv : Vis X.env.scope "_law_e") (hg : Gl X "_law_kind")
    (hz : L2N.Zn cls d oe) (hf : ∃ vs, oe.data = .fields vs) : PE (X.suite a ((a, oe) :: pn)) (.Call (.Name "_law_kind" p1) [.Name "_law_e" p2] [] p3) (fun σ H Q => tCons (tVar 1) tNil σ H fun vs H1 => spKind X.K Cs (a, oe) vs H1 Q C8.E0) := by
  obtain ⟨vs, hd⟩ := hf
  exact pe_callP (p := (a, oe)) FK (roomH_mark room _) ⟨rfl, vs, hd, hz.2.2 vs hd⟩ List.mem_cons_self hg mK kK bK pass0 (pa_cons (pe_var (i := 1) hN hv (by decide) (by decide)) pa_nil)
/-- return (kind(e), None) -/
theorem suite_none (FK : FnP X.prog X.w X.K X.mg X.base CX0 1 fK fdK ["_law_e"] (spKind X.K Cs)) (room : Room 1 X.A) (bK : Binds X.K fdK ["_law_e"] []) (mK : X.mg "_law_kind" = some (.ref fK)) (kK : PySem.W.keepIn X.K (.ref fK) = true) (hN : X.N[1]? = some ("_law_e" : Str)) (hv : Vis X.env.scope "_law_e") (hg : Gl X "_law_kind")
    (hz : L2N.Zn cls d oe) (hf : ∃ vs, oe.data = .fields vs) : PSs (X.suite a ((a, oe) :: pn)) [.Return (some (.Tuple [.Call (.Name "_law_kind" p1) [.Name "_law_e" p2] [] p3, .Constant .none j p4] kk p5)) p6] (tsSuite X.K Cs none a cls d) := by
  refine ⟨fun pins st σ H Dn I hyp => ?_⟩
  obtain ⟨D, dd, word, fs, v, rfl, rfl, KD, slot, hd, hw, told, rest⟩ := hyp
  have slot := slot (by rw [I.len]; exact (List.getElem?_eq_some_iff.mp hN).1)
  have ez : v = .non := told
  subst ez
  refine (pss_one (ps_ret (pos := p6) (pe_tup (x1 := kk) (pos := p5) (pa_cons (suite_kind (p1 := p1) (p2 := p2) (p3 := p3) FK room bK mK kK hN hv hg hz hf) (pa_cons (pe_non (j := j) (pos := p4)) pa_nil))))).run pins st σ H Dn I ?_
  exact ⟨_, slot, D, dd, word, fs, rfl, KD, ⟨hz.1, hz.2.1, hf⟩, hd, hw, fun H' s' => ⟨by show 2 ≤ sizeLine; decide, fun T hT => rest H' s' T hT⟩⟩
/-- return (kind(e), e.n) -/
theorem suite_fld {n : Str} (FK : FnP X.prog X.w X.K X.mg X.base CX0 1 fK fdK ["_law_e"] (spKind X.K Cs)) (room : Room 1 X.A) (bK : Binds X.K fdK ["_law_e"] []) (mK : X.mg "_law_kind" = some (.ref fK)) (kK : PySem.W.keepIn X.K (.ref fK) = true) (hN : X.N[1]? = some ("_law_e" : Str)) (hv : Vis X.env.scope "_law_e") (hg : Gl X "_law_kind")
    (hz : L2N.Zn cls d oe) (hf : ∃ vs, oe.data = .fields vs) : PSs (X.suite a ((a, oe) :: pn)) [.Return (some (.Tuple [.Call (.Name "_law_kind" p1) [.Name "_law_e" p2] [] p3, .Attribute (.Name "_law_e" p4) n p7] kk p5)) p6] (tsSuite X.K Cs (some n) a cls d) := by
  refine ⟨fun pins st σ H Dn I hyp => ?_⟩
  obtain ⟨D, dd, word, fs, v, rfl, rfl, KD, slot, hd, hw, ⟨noN, hn⟩, rest⟩ := hyp
  have slot := slot (by rw [I.len]; exact (List.getElem?_eq_some_iff.mp hN).1)
  have zp : ExcP (a, oe) D dd := ⟨hz.1, hz.2.1, hf⟩
  refine (pss_one (ps_ret (pos := p6) (pe_tup (x1 := kk) (pos := p5) (pa_cons (suite_kind (p1 := p1) (p2 := p2) (p3 := p3) FK room bK mK kK hN hv hg hz hf)
    (pa_cons (pe_fldP (X := X.suite a ((a, oe) :: pn)) (p := (a, oe)) (pos := p7) (n := n) KD.xf noN zp List.mem_cons_self (pe_var (pos := p4) (i := 1) hN hv (by decide) (by decide))) pa_nil))))).run pins st σ H Dn I ?_
  exact ⟨_, slot, D, dd, word, fs, rfl, KD, zp, hd, hw, fun H' s' => ⟨_, slot, rfl, fs, v, s' _ _ hd, hn, by show 2 ≤ sizeLine; decide, fun T hT => rest H' s' T hT⟩⟩
end
/-- the names that the clauses ask for -/
structure ToldM (K : PySem.W.Frag) (mg : Str → Option Value) (Cs : Nat → Addr) (CL CF : Addr) : Prop where
  km : KindM K mg Cs
  lost : mg "Lost" = some (.ref CL)
  fold : mg "FoldError" = some (.ref CF)
theorem told_gives {X : Cx} {g : Addr} {cdg : Value} {q : Str} {Cs : Nat → Addr} {CL CF fK : Addr} {fdK : FuncData} (M : ToldM X.K X.mg Cs CL CF) (FK : FnP X.prog X.w X.K X.mg X.base CX0 1 fK fdK ["_law_e"] (spKind X.K Cs)) (bK : Binds X.K fdK ["_law_e"] []) (mK : X.mg "_law_kind" = some (.ref fK)) (kK : PySem.W.keepIn X.K (.ref fK) = true) :
    GivesN X nTold "_law_told" (defScope sTold) g cdg (defBody sTold) "_law_ask" q (TToldN X.K Cs CL CF) := by
  intro f c' s H Q tl room act code hyp
  have room1 : Room 1 (gotCx X nTold "_law_told" (defScope sTold) g cdg s H).nox.A := room.mono (by decide)
  have hNe : (gotCx X nTold "_law_told" (defScope sTold) g cdg s H).nox.N[1]? = some ("_law_e" : Str) := rfl
  have hve : Vis (gotCx X nTold "_law_told" (defScope sTold) g cdg s H).nox.env.scope "_law_e" := .inl (by rfl)
  have hgk : Gl (gotCx X nTold "_law_told" (defScope sTold) g cdg s H).nox "_law_kind" := by rfl
  refine ⟨_, pss_one (try_some (X := (gotCx X nTold "_law_told" (defScope sTold) g cdg s H).nox) (n := "_law_e") (i := 1)
      (tb := fun W D σ H => ∃ Ech : XK, (∀ cls d σ' H', Ech cls d H' → W cls d σ' H') ∧ σ[0]? = some (some (.ref f)) ∧ H c' = some (CodeO c' q) ∧ tl Ech H fun v H1 => [V.str "told", v].length ≤ sizeLine ∧ ∀ p, H1 p = none → D.rt (.ref p) (upd H1 p (.tup [.str "told", v])))
      rfl rfl scTold.nd rfl rfl (fun W pn xe tk _ => ?_)
      (.cons (.three ⟨by rfl, by decide, .inl M.km.n0⟩ ⟨by rfl, by decide, .inl M.km.n6⟩ ⟨by rfl, by decide, .inl M.km.n13⟩) (fun a oe cls d pn hz hf => suite_fld FK room1 bK mK kK hNe hve hgk hz hf)
      (.cons (.two ⟨by rfl, by decide, .inl M.km.n9⟩ ⟨by rfl, by decide, .inl M.km.n21⟩) (fun a oe cls d pn hz hf => suite_fld FK room1 bK mK kK hNe hve hgk hz hf)
      (.cons (.one ⟨by rfl, by decide, .inl M.km.n11⟩) (fun a oe cls d pn hz hf => suite_fld FK room1 bK mK kK hNe hve hgk hz hf)
      (.cons (.one ⟨by rfl, by decide, .inl M.km.n18⟩) (fun a oe cls d pn hz hf => pss_no (a := a) (c := cls) (d := d))
      (.cons (.one ⟨by rfl, by decide, .inl M.km.n20⟩) (fun a oe cls d pn hz hf => pss_no (a := a) (c := cls) (d := d))
      (.cons (.one ⟨by rfl, by decide, .inl M.lost⟩) (fun a oe cls d pn hz hf => pss_no (a := a) (c := cls) (d := d))
      (.cons (.two ⟨by rfl, by decide, .inl M.fold⟩ ⟨by rfl, by decide, .inl M.km.n26⟩) (fun a oe cls d pn hz hf => suite_none FK room1 bK mK kK hNe hve hgk hz hf) .nil)))))))), ?_⟩
  · refine ⟨fun pins s' σ H' D I got => ?_⟩
    obtain ⟨Ech, out, h1, h2, h3⟩ := got
    exact (pss_one (ps_ret (pe_tup (pa_cons pe_str (pa_cons (act W pn xe Ech _ _ tk out) pa_nil))))).run pins s' σ H' D I ⟨h1, h2, h3⟩
  · refine ⟨EToldN X.K Cs CL CF Q, fun cls d σ' H' got => ?_, rfl, code, hyp⟩
    obtain ⟨D, dd, word, fs, v, cl, rfl, rfl, KD, TD, hd, hw, tells, rest⟩ := got
    have reads : ∀ (fld : Option Str), fldOf cl = fld → ∀ (a : Addr) (Dn : Ends), Dn.rt = Q → tsSuite X.K Cs fld a (.ref D) (some dd) Dn (σ'.set 1 (some (.ref a))) H' := fun fld ef a Dn er => by
      subst ef
      refine ⟨D, dd, word, fs, v, rfl, rfl, KD, fun hl => ?_, hd, hw, tells, fun H2 s2 T hT => ?_⟩
      · rw [List.length_set] at hl
        rw [List.getElem?_set_self hl]
      · rw [er]
        exact rest H2 s2 T hT
    refine ⟨_, TD.c1, fun hb a _ => reads _ ?_ a _ rfl, fun n1 => ⟨_, TD.c2, fun hb a _ => reads _ ?_ a _ rfl, fun n2 => ⟨_, TD.c3, fun hb a _ => reads _ ?_ a _ rfl, fun n3 => ⟨_, TD.c4, fun hb => Bool.noConfusion hb, fun _ => ⟨_, TD.c5, fun hb => Bool.noConfusion hb, fun _ => ⟨_, TD.c6, fun hb => Bool.noConfusion hb, fun _ => ⟨_, TD.c7, fun hb a _ => reads _ ?_ a _ rfl, fun hb => Bool.noConfusion hb⟩⟩⟩⟩⟩⟩⟩
    · rw [of_decide_eq_true hb]
      rfl
    · rw [of_decide_eq_true hb]
      rfl
    · rw [of_decide_eq_true hb]
      rfl
    · have e1 := of_decide_eq_false n1
      have e2 := of_decide_eq_false n2
      have e3 := of_decide_eq_false n3
      unfold fldOf
      split
      · exact absurd rfl e1
      · exact absurd rfl e2
      · exact absurd rfl e3
      · rfl
end KW


set_option Elab.async false
set_option maxRecDepth 100000
set_option maxHeartbeats 1000000
/-! What stays; what is told of refusals. -/
namespace KW
open PySem PySem.Spec PyProof.Rows L2 LamX
/-! ### what stays -/
/-- all but lists stays -/
def NL (H H' : Hp) : Prop := ∀ a o, (∀ xs, o ≠ .lst xs) → H a = some o → H' a = some o
/-- all but lists and tables stays -/
def NT (H H' : Hp) : Prop := ∀ a o, (∀ xs, o ≠ .lst xs) → (∀ ps, o ≠ .tbl ps) → H a = some o → H' a = some o
theorem NL.nt {H H' : Hp} (m : NL H H') : NT H H' := fun a o h _ e => m a o h e
theorem NT.of {H H' : Hp} (e : ExtN H H') : NT H H' := fun a o _ h q => e a o q h
theorem NL.same {H H' : Hp} (s : Same H H') : NL H H' := fun a o _ h => s a o h
theorem NL.grow {b : Addr} {H H' : Hp} {xs : List V} (hb : H b = some (.lst xs)) (g : Grow b H H') : NL H H' := fun a o h e => g a o (ne_of e hb (h xs)) e
theorem NL.put {p : Addr} {H : Hp} {xs : List V} {o : HO} (hp : H p = some (.lst xs)) : NL H (upd H p o) := fun a u h e => by
  rw [upd_ne (ne_of e hp (h xs))]
  exact e
theorem NT.kp {H H' : Hp} (m : NT H H') : Kp H H' := fun a o f e => m a o (fun _ => f.ne) (fun ps z => by subst z; exact f) e
theorem tabs_nl {T : List (Addr × Str)} {H H' : Hp} (m : NL H H') (t : Tabs T H) : Tabs T H' := fun p hp => by
  obtain ⟨ps, h1, h2, h3⟩ := t p hp
  refine ⟨ps, m _ _ (fun _ => by intro z; cases z) h1, h2, fun pos cv hc => ?_⟩
  obtain ⟨c, e, h⟩ := h3 pos cv hc
  exact ⟨c, e, m _ _ (fun xs z => by unfold CodeO at z; cases z) h⟩
section
variable {b l : Addr} {ms : List Int} {H H' : Hp}
theorem bag_ext (B : BagAt b l ms H) (e : ExtN H H') : BagAt b l ms H' := by
  obtain ⟨⟨i, r, sd, c, h, hi⟩, hl, nbl⟩ := B
  exact ⟨⟨i, r, sd, c, e _ _ h (fun _ => by intro z; cases z), hi⟩, e _ _ hl (fun _ => by intro z; cases z), nbl⟩
end
theorem webAt_nt {C : Addr} {H H' : Hp} {x : Addr} {n : Nat} {ps : List (Nat × Nat)} (m : NT H H') (h : WebAt C H x n ps) : WebAt C H' x n ps := by
  obtain ⟨dx, q, lv, en, as, ls, es, h1, h2⟩ := id h
  exact h.to m.kp ((m _ _ (fun _ => by intro z; cases z) (fun _ => by intro z; cases z) h1).trans h1.symm)
structure CoreT (C b l t x : Addr) (T : List (Addr × Str)) (ms : List Int) (n : Nat) (ps : List (Nat × Nat)) (H : Hp) : Prop where
  bag : BagAt b l ms H
  tabs : Tabs T H
  wt : WebT H t n ps
  wa : WebAt C H x n ps
section
variable {C b l t x : Addr} {T : List (Addr × Str)} {ms : List Int} {n : Nat} {ps : List (Nat × Nat)} {H H' : Hp}
theorem CoreT.nt (c : CoreT C b l t x T ms n ps H) (m : NT H H') (B : BagAt b l ms H') (T' : Tabs T H') : CoreT C b l t x T ms n ps H' := ⟨B, T', c.wt.kp m.kp, webAt_nt m c.wa⟩
theorem CoreT.nl (c : CoreT C b l t x T ms n ps H) (m : NL H H') (B : BagAt b l ms H') : CoreT C b l t x T ms n ps H' := c.nt m.nt B (tabs_nl m c.tabs)
theorem CoreT.ext (c : CoreT C b l t x T ms n ps H) (e : ExtN H H') (T' : Tabs T H') : CoreT C b l t x T ms n ps H' := c.nt (.of e) (bag_ext c.bag e) T'
theorem CoreT.same (c : CoreT C b l t x T ms n ps H) (s : Same H H') : CoreT C b l t x T ms n ps H' := c.nl (.same s) (bag_ext c.bag (ExtN.of s))
end
/-- a refusal, told: its word and None -/
theorem told_none {K : PySem.W.Frag} {Cs : Nat → Addr} {CL CF D : Addr} {word : Str} {H : Hp} {Q : VK} (KD : KindOf K Cs D word) (TD : ToldOf K Cs CL CF D 7) (k : ∀ H2 T, Same H H2 → H2 T = none → Q (.ref T) (upd H2 T (.tup [.str word, .non]))) :
    Refuse D word [] H (EToldN K Cs CL CF Q) := fun d fs H' s _ hd hw _ =>
  ⟨D, d, word, fs, .non, 7, rfl, rfl, KD, TD, hd, hw, rfl, fun H2 s2 T hT => k H2 T (s.trans s2) hT⟩
/-- a refusal, told: its word and its field, a number -/
theorem told_fld {K : PySem.W.Frag} {Cs : Nat → Addr} {CL CF D : Addr} {word n : Str} {cl : Nat} {v : V} {H : Hp} {Q : VK} (KD : KindOf K Cs D word) (TD : ToldOf K Cs CL CF D cl) (hn : fldOf cl = some n) (nA : PySem.W.findIn K (.ref D) n = some none) (k : ∀ H2 T, Same H H2 → H2 T = none → Q (.ref T) (upd H2 T (.tup [.str word, v]))) :
    Refuse D word [(n, v)] H (EToldN K Cs CL CF Q) := fun d fs H' s _ hd hw hf =>
  ⟨D, d, word, fs, v, cl, rfl, rfl, KD, TD, hd, hw, by rw [hn]; exact ⟨nA, hf _ (List.mem_singleton.mpr rfl)⟩, fun H2 s2 T hT => k H2 T (s.trans s2) hT⟩
theorem op_isnotB {X : Cx} : OpR X (compareOp .IsNot) (fun x y H Q => ∃ a b, x = .bl a ∧ y = .bl b ∧ Q (.bl (!decide (a = b))) H) := by
  intro pins st σ H x y v u Q I rx ry hyp
  obtain ⟨a, b, rfl, rfl, q⟩ := hyp
  cases rx
  cases ry
  show wpAny _ _ ((isSame (Value.bool a) (Value.bool b)) >>= fun z => pure (Value.bool (!z))) _ _ st
  cases a <;> cases b <;> exact wpAny_bind (wpAny_pure (wpAny_pure ⟨.bl _, H, I, rfl, q⟩))
theorem passNv {P : Program} {w : World} {X : Cx} : Passes (CN P w) X L2.E0 := fun _ _ _ _ _ _ _ h => by
  obtain ⟨_, _, _, _, _, _, _, _, _, _, _, _, no⟩ := h
  exact no.elim
end KW


set_option Elab.async false
set_option maxRecDepth 100000
set_option maxHeartbeats 1000000
/-! The law's drawing: of, far. -/
namespace KW
open PySem PySem.Spec PyProof.Rows L2
abbrev sOf : Stmt := topS 44
abbrev sFar : Stmt := topS 48
def spOf (K : PySem.W.Frag) : Sp := fun vs H Q _ => ∃ (b l a : Addr) (ns : List Int) (xs : List V), vs = [.ref b, .ref a] ∧ BagAt b l ns H ∧ SqL K H a xs ∧ a ≠ b ∧ (∀ o, H a = some o → ∃ ys, o = .lst ys) ∧ 1 ≤ xs.length ∧ xs.length ≤ 1000 ∧
  ∀ (H' : Hp) (v : V), Off b H H' → BagAt b l ns H' → v ∈ xs → Q v H'
def spFar : Sp := fun vs H Q _ => ∃ (b l : Addr) (ns : List Int), vs = [.ref b] ∧ BagAt b l ns H ∧ ∀ (H' : Hp) (i : Int), Grow b H H' → BagAt b l ns H' → (i < 0 ∨ 1000000000 ≤ i) → Q (.int i) H'
section
variable {P : Program} {w : World} {K : PySem.W.Frag} {mg : Str → Option Value} {base : Heap}
theorem scOf : FnScope ["_law_bag_here", "_law_some"] ["_law_bag_here", "_law_some"] (defScope sOf) := ⟨rfl, rfl, rfl, by decide +kernel, rfl, by decide +kernel, by decide +kernel⟩
theorem ok_of {f fP : Addr} {fd fdP : FuncData} (F : Fun K "_law_of" "_law_of" sOf f fd) (GP : FnOk P w K mg base CX0 1 fP fdP ["_law_bag_here", "_law_many_here"] spPull) (bP : Binds K fdP ["_law_bag_here", "_law_many_here"] []) (mP : mg "_law_pull" = some (.ref fP)) (kP : PySem.W.keepIn K (.ref fP) = true) (mLen : mg "len" = none) :
    FnOk P w K mg base CX0 2 f fd ["_law_bag_here", "_law_some"] (spOf K) := by
  refine F.ok scOf (fun vs H Q E h => ?_) (fun cdv A outer s H vs Q E room h => ?_)
  · obtain ⟨b, l, a, ns, xs, rfl, _⟩ := h
    rfl
  · obtain ⟨b, l, a, ns, xs, rfl, B, hS, nab, hl, h1, h2, k⟩ := h
    refine ⟨_, pss_one (ps_ret (pe_ix ix_list (pv 1) (pe_call GP room rfl mP kP bP .nil pass0 (pa_cons (pv 0) (pa_cons (pe_callB call_len_seq (by rfl) mLen PySem.boot_len (pa_cons (pv 1) pa_nil)) pa_nil))) (fun _ _ => rfl))), ?_⟩
    refine ⟨_, rfl, _, rfl, _, rfl, a, _, rfl, .inl hS, b, l, ns, _, rfl, B, by omega, by omega, fun H2 r h0 hr O2 B2 => ?_⟩
    obtain ⟨j, rfl⟩ := Int.eq_ofNat_of_zero_le h0
    have hj : j < xs.length := by omega
    have hS2 : SqL K H2 a xs := by
      rcases hS with (h | ⟨o, h⟩) | h
      · exact .inl (.inl (by rw [O2 a nab]; exact h))
      · exact .inl (.inr ⟨o, by rw [O2 a nab]; exact h⟩)
      · exact .inr h
    exact ⟨a, _, _, _, rfl, rfl, hS2, atI_nat (List.getElem?_eq_getElem hj), k H2 _ O2 B2 (List.getElem_mem hj)⟩
theorem scFar : FnScope ["_law_bag_here"] ["_law_bag_here"] (defScope sFar) := ⟨rfl, rfl, rfl, by decide +kernel, rfl, by decide +kernel, by decide +kernel⟩
theorem ok_far {f fP fO : Addr} {fd fdP fdO : FuncData} (F : Fun K "_law_far" "_law_far" sFar f fd) (GP : FnOk P w K mg base CX0 1 fP fdP ["_law_bag_here", "_law_many_here"] spPull) (bP : Binds K fdP ["_law_bag_here", "_law_many_here"] []) (mP : mg "_law_pull" = some (.ref fP)) (kP : PySem.W.keepIn K (.ref fP) = true)
    (GO : FnOk P w K mg base CX0 2 fO fdO ["_law_bag_here", "_law_some"] (spOf K)) (bO : Binds K fdO ["_law_bag_here", "_law_some"] []) (mO : mg "_law_of" = some (.ref fO)) (kO : PySem.W.keepIn K (.ref fO) = true) : FnOk P w K mg base CX0 3 f fd ["_law_bag_here"] spFar := by
  refine F.ok scFar (fun vs H Q E h => ?_) (fun cdv A outer s H vs Q E room h => ?_)
  · obtain ⟨b, l, ns, rfl, _⟩ := h
    rfl
  · obtain ⟨b, l, ns, rfl, B, k⟩ := h
    have room1 : Room 1 _ := room.mono (by decide)
    refine ⟨_, pss_one (ps_ret (pe_call GO room rfl mO kO bO .nil pass0 (pa_cons (pv 0) (pa_cons (pe_lst (pa_cons (pe_un un_neg pe_int) (pa_cons (pe_op op_add (pe_op op_pow pe_int pe_int) (pe_call GP room1 rfl mP kP bP .nil pass0 (pa_cons (pv 0) (pa_cons (pe_op op_pow pe_int pe_int) pa_nil))))
      (pa_cons (pe_op op_sub (pe_un un_neg pe_int) (pe_call GP room1 rfl mP kP bP .nil pass0 (pa_cons (pv 0) (pa_cons (pe_op op_pow pe_int pe_int) pa_nil)))) pa_nil)))) pa_nil)))), ?_⟩
    refine ⟨_, rfl, _, rfl, _, _, rfl, rfl, ⟨by decide, by decide, by decide⟩, _, rfl, _, _, rfl, rfl, ⟨by decide, by decide, by decide⟩, b, l, ns, _, rfl, B, by decide, by decide, fun H1 r1 h0 h1 O1 B1 => ?_⟩
    refine ⟨_, _, rfl, rfl, _, rfl, _, rfl, _, _, rfl, rfl, ⟨by decide, by decide, by decide⟩, b, l, ns, _, rfl, B1, by decide, by decide, fun H2 r2 g0 g1 O2 B2 => ?_⟩
    refine ⟨_, _, rfl, rfl, by show 3 ≤ sizeLine; decide, fun L hL => ?_⟩
    refine ⟨b, l, L, ns, _, rfl, B2.new hL, SqL.of upd_same, (B2.nb hL).symm, fun o e => ?_, by show 1 ≤ 3; decide, by show 3 ≤ 1000; decide, fun H3 v O3 B3 hv => ?_⟩
    · rw [upd_same] at e
      cases e
      exact ⟨_, rfl⟩
    have G3 : Grow b H H3 := ((O1.grow.trans O2.grow).trans ((Grow.refl b H2).new hL)).trans O3.grow
    simp only [List.mem_cons, List.not_mem_nil, or_false] at hv
    rcases hv with rfl | rfl | rfl
    · exact k H3 _ G3 B3 (.inl (by decide))
    · exact k H3 _ G3 B3 (.inr (by show (1000000000 : Int) ≤ 10 ^ 9 + r1; omega))
    · exact k H3 _ G3 B3 (.inl (by show (-2 : Int) - r2 < 0; omega))
end
end KW


set_option Elab.async false
set_option maxRecDepth 100000
set_option maxHeartbeats 2000000
/-! The law's own: on, many, rows. -/
namespace KW
open PySem PySem.Spec PyProof.Rows L2
abbrev sLOn : Stmt := topS 53
abbrev sLMany : Stmt := topS 54
abbrev sLRows : Stmt := topS 55
/-- how many rows begin in each room -/
def cntL (n : Nat) (ps : List (Nat × Nat)) : Nat → List Nat
  | 0 => List.replicate n 1
  | k + 1 => (List.range n).map fun r => sm (idxs (ps.map (·.1)) r 0) fun a => (cntL n ps k).getD (ps.getD a (0, 0)).2 0
theorem cntL_len {n : Nat} {ps : List (Nat × Nat)} : ∀ k, (cntL n ps k).length = n
  | 0 => List.length_replicate
  | k + 1 => by
    unfold cntL
    rw [List.length_map, List.length_range]
def spLOn : Sp := fun vs H Q _ => ∃ (t : Addr) (n : Nat) (ps : List (Nat × Nat)) (a : Nat), vs = [.ref t, .int a] ∧ WebT H t n ps ∧ ps.length ≤ 500 ∧ a < ps.length ∧ ∀ (H' : Hp) (l : Addr), Same H H' → H l = none → H' l = some (.lst (nums (onOf ps a))) → Q (.ref l) H'
def spLMany : Sp := fun vs H Q _ => ∃ (t : Addr) (n : Nat) (ps : List (Nat × Nat)) (k : Nat), vs = [.ref t, .int k] ∧ WebT H t n ps ∧ n ≤ 500 ∧ ps.length ≤ 500 ∧ k ≤ 1000 ∧ ∀ H' : Hp, Same H H' → Q (.int ((cntL n ps k).sum : Nat)) H'
def spLRows : Sp := fun vs H Q _ => ∃ (t : Addr) (n : Nat) (ps : List (Nat × Nat)) (k : Nat), vs = [.ref t, .int ((k + 1 : Nat) : Int)] ∧ WebT H t n ps ∧ ps.length ≤ 500 ∧ k ≤ 1000 ∧ (∀ j, j ≤ k → (rowsF ps j).length ≤ 100000) ∧
  ∀ (H' : Hp) (l : Addr) (vs : List V), Same H H' → H l = none → H' l = some (.lst vs) → RowsIn H' vs (rowsF ps k) → Q (.ref l) H'
theorem onOf_at {ps : List (Nat × Nat)} {a : Nat} {p : Nat × Nat} (h : ps[a]? = some p) : onOf ps a = idxs (ps.map (·.1)) p.2 0 := by
  unfold onOf
  rw [List.getD_eq_getElem?_getD, h]
  rfl
theorem idxs_lt (r : Nat) : ∀ (ps : List Nat) (k a : Nat), a ∈ idxs ps r k → k ≤ a ∧ a < k + ps.length
  | [], _, _, h => absurd h (by simp [idxs])
  | p :: ps, k, a, h => by
    unfold idxs at h
    have go : a ∈ idxs ps r (k + 1) → k ≤ a ∧ a < k + (p :: ps).length := fun h => by
      have z := idxs_lt r ps (k + 1) a h
      rw [List.length_cons]
      omega
    split at h
    · rcases List.mem_cons.mp h with e | h
      · rw [e, List.length_cons]
        omega
      · exact go h
    · exact go h
theorem sumI : ∀ l : List Nat, ((l.map fun i : Nat => (i : Int)).sum) = (l.sum : Nat)
  | [] => rfl
  | i :: l => by rw [List.map_cons, List.sum_cons, List.sum_cons, sumI l, Int.natCast_add]
theorem numsI (l : List Nat) : nums l = (l.map fun i : Nat => (i : Int)).map V.int := by
  unfold nums nV
  rw [List.map_map]
  rfl
theorem nums_get {l : List Nat} {j : Nat} {y : V} (h : (nums l)[j]? = some y) : ∃ a, l[j]? = some a ∧ y = .int (a : Int) := by
  unfold nums at h
  rw [List.getElem?_map] at h
  cases q : l[j]? with
  | none =>
    rw [q] at h
    cases h
  | some a =>
    rw [q] at h
    exact ⟨a, rfl, (Option.some.inj h).symm⟩
theorem rep_nums (n i : Nat) : (List.replicate ((n : Int)).toNat [V.int (i : Int)]).flatten = nums (List.replicate n i) := by
  rw [List.flatten_replicate_singleton]
  unfold nums nV
  rw [List.map_replicate]
  rfl
theorem nums_sum {l : List Nat} : ((l.map fun i : Nat => (i : Int)).sum) = ((sm l id : Nat) : Int) := by
  rw [sumI]
  unfold sm
  rw [List.map_id]
theorem sm_id {α : Type} (f : α → Nat) (xs : List α) : sm (xs.map f) id = sm xs f := sm_map f id xs
theorem rowsF_len {ps : List (Nat × Nat)} : ∀ {k : Nat} {r : List Nat}, r ∈ rowsF ps k → r.length = k + 1
  | 0, r, h => by
    obtain ⟨a, _, e⟩ := List.mem_map.mp h
    rw [← e]
    rfl
  | k + 1, r, h => by
    obtain ⟨q, h1, h2⟩ := List.mem_flatMap.mp h
    obtain ⟨a, _, e⟩ := List.mem_map.mp h2
    rw [← e, List.length_append, rowsF_len h1]
    rfl
theorem rowsF_lt {ps : List (Nat × Nat)} : ∀ {k : Nat} {r : List Nat}, r ∈ rowsF ps k → ∀ a ∈ r, a < ps.length
  | 0, r, h, a, ha => by
    obtain ⟨b, hb, e⟩ := List.mem_map.mp h
    rw [← e, List.mem_singleton] at ha
    rw [ha]
    exact List.mem_range.mp hb
  | k + 1, r, h, a, ha => by
    obtain ⟨q, h1, h2⟩ := List.mem_flatMap.mp h
    obtain ⟨b, hb, e⟩ := List.mem_map.mp h2
    rw [← e] at ha
    rcases List.mem_append.mp ha with z | z
    · exact rowsF_lt h1 a z
    · rw [List.mem_singleton.mp z]
      have y := (idxs_lt _ _ _ _ hb).2
      rw [List.length_map] at y
      omega
theorem flat_take {α β : Type} (f : α → List β) (xs : List α) (j : Nat) : ((xs.take j).flatMap f).length ≤ (xs.flatMap f).length := by
  have e : xs.flatMap f = (xs.take j).flatMap f ++ (xs.drop j).flatMap f := by rw [← List.flatMap_append, List.take_append_drop]
  rw [e, List.length_append]
  omega
theorem last_mem {r : List Nat} (h : r ≠ []) : r.getLastD 0 ∈ r := by
  rw [List.getLastD_eq_getLast?, List.getLast?_eq_some_getLast h]
  exact List.getLast_mem h
theorem at_last {r : List Nat} (h : r ≠ []) : atI (nums r) (-1) = some (.int ((r.getLastD 0 : Nat) : Int)) := by
  have hl : 0 < r.length := List.length_pos_iff.mpr h
  have ln : (nums r).length = r.length := by unfold nums; rw [List.length_map]
  have e : ixN (nums r).length (-1) = some (r.length - 1) := by
    unfold ixN
    rw [ln, if_neg (by omega), if_pos (by omega)]
    congr 1
    omega
  unfold atI
  rw [e]
  show (nums r)[r.length - 1]? = _
  unfold nums
  rw [List.getElem?_map, List.getLastD_eq_getLast?, List.getLast?_eq_getElem?]
  cases q : r[r.length - 1]? with
  | none => rw [List.getElem?_eq_none_iff] at q; omega
  | some a => rfl
theorem paired_append {α β : Type} {R : α → β → Prop} {as2 : List α} {bs2 : List β} : ∀ {as : List α} {bs : List β}, Paired R as bs → Paired R as2 bs2 → Paired R (as ++ as2) (bs ++ bs2)
  | _, _, .nil, h2 => h2
  | _, _, .cons h r, h2 => .cons h (paired_append r h2)
section
variable {P : Program} {w : World} {K : PySem.W.Frag} {mg : Str → Option Value} {base : Heap}
theorem scLOn : FnScope ["_law_w", "_law_arrow"] ["_law_w", "_law_arrow"] (defScope sLOn) := ⟨rfl, rfl, rfl, by decide +kernel, rfl, by decide +kernel, by decide +kernel⟩
theorem ok_lon {f fO : Addr} {fd fdO : FuncData} (F : Fun K "_law_on" "_law_on" sLOn f fd) (GO : FnOk P w K mg base CX0 1 fO fdO ["_law_w", "_law_room"] spLOuts) (bO : Binds K fdO ["_law_w", "_law_room"] []) (mO : mg "_law_outs" = some (.ref fO)) (kO : PySem.W.keepIn K (.ref fO) = true) :
    FnOk P w K mg base CX0 2 f fd ["_law_w", "_law_arrow"] spLOn := by
  refine F.ok scLOn (fun vs H Q E h => ?_) (fun cdv A outer s H vs Q E hr h => ?_)
  · obtain ⟨t, n, ps, a, rfl, _⟩ := h
    rfl
  · obtain ⟨t, n, ps, a, rfl, W, hlen, ha, k⟩ := h
    obtain ⟨q, as, ht, hq, hP, hG⟩ := id W
    have hp : ps[a]? = some ps[a] := List.getElem?_eq_getElem ha
    obtain ⟨c, hc, hcp⟩ := pair_at hP hp
    refine ⟨_, pss_one (ps_ret (pe_call GO hr rfl mO kO bO .nil pass0 (pa_cons (pv 0) (pa_cons (pe_ix ix_tup (pe_ix ix_tup (pe_ix ix_tup (pv 0) pe_int (fun _ _ => rfl)) (pv 1) (fun _ _ => rfl)) pe_int (fun _ _ => rfl)) pa_nil)))), ?_⟩
    refine ⟨_, rfl, _, rfl, t, _, _, _, rfl, rfl, SqT.of ht, rfl, _, rfl, q, _, _, _, rfl, rfl, hq.sq, atI_nat hc, c, _, _, _, rfl, rfl, SqT.of hcp, rfl, t, n, ps, ps[a].2, rfl, W, hlen, fun H' l s' n' h' => k H' l s' n' ?_⟩
    rw [onOf_at hp]
    exact h'
abbrev nLMany : List Str := ["_law_w", "_law_length", "_law_found", "_law_step", "_law_room", "_law_arrow"]
theorem scLMany : FnScope nLMany ["_law_w", "_law_length"] (defScope sLMany) := ⟨rfl, rfl, rfl, by decide +kernel, rfl, by decide +kernel, by decide +kernel⟩
theorem ok_lmany {f fO : Addr} {fd fdO : FuncData} (F : Fun K "_law_many" "_law_many" sLMany f fd) (GO : FnOk P w K mg base CX0 1 fO fdO ["_law_w", "_law_room"] spLOuts) (bO : Binds K fdO ["_law_w", "_law_room"] []) (mO : mg "_law_outs" = some (.ref fO)) (kO : PySem.W.keepIn K (.ref fO) = true)
    (mRange : mg "range" = none) (mSum : mg "sum" = none) : FnOk P w K mg base CX0 2 f fd ["_law_w", "_law_length"] spLMany := by
  refine F.ok scLMany (fun vs H Q E h => ?_) (fun cdv A outer s H vs Q E hr h => ?_)
  · obtain ⟨t, n, ps, k, rfl, _⟩ := h
    rfl
  · obtain ⟨t, n, ps, k, rfl, W, hn, hlen, hk, kk⟩ := h
    obtain ⟨q, as, ht, hq, hP, hG⟩ := id W
    refine ⟨_, pss_cons (ps_set (i := 2) scLMany.nd rfl (Or.inr rfl) (pe_op op_rep (pe_lst (pa_cons pe_int pa_nil)) (pe_ix ix_tup (pv 0) pe_int (fun _ _ => rfl))))
      (pss_cons (ps_for PassesOwn.never rfl (pi_range1 (by rfl) mRange (pa_cons (pv 1) pa_nil)) (pg_name (i := 3) scLMany.nd rfl (Or.inl rfl))
        (pss_one (ps_set (i := 2) scLMany.nd rfl (Or.inr rfl) (pe_lc (own := [("_law_room", 4)]) (g := gName 4) (tt := tYes) rfl scLMany.nd (pi_range1 (by rfl) mRange (pa_cons (pe_ix ix_tup (pv 0) pe_int (fun _ _ => rfl)) pa_nil)) (blkOk_by (own := [("_law_room", 4)]) (N := nLMany) (sc := defScope sLMany) (by decide +kernel)) (fun _ _ _ _ _ => pg_name (i := 4) scLMany.nd rfl (Or.inl rfl)) (fun _ _ _ _ _ => pts_nil)
          (fun _ _ _ _ _ => pe_callB (cr_sumK (K := K) rfl rfl) (by rfl) mSum (by decide +kernel) (pa_cons
            (pe_lc (own := [("_law_arrow", 5)]) (g := gName 5) (tt := tYes) rfl scLMany.nd (pi_listK (K := K) rfl (pe_call GO hr rfl mO kO bO .nil pass0 (pa_cons (pv 0) (pa_cons (pv 4) pa_nil)))) (blkOk_by (own := [("_law_arrow", 5)]) (N := nLMany) (by rfl)) (fun _ _ _ _ _ => pg_name (i := 5) scLMany.nd rfl (Or.inl rfl)) (fun _ _ _ _ _ => pts_nil)
              (fun _ _ _ _ _ => pe_ix (ix_listK (K := K) rfl) (pv 2) (pe_ix (ix_tupK (K := K) rfl) (pe_ix (ix_tupK (K := K) rfl) (pe_ix (ix_tupK (K := K) rfl) (pv 0) pe_int (fun _ _ => rfl)) (pv 5) (fun _ _ => rfl)) pe_int (fun _ _ => rfl)) (fun _ _ => rfl))) pa_nil))))))
      (pss_one (ps_ret (pe_callB (cr_sum rfl) (by rfl) mSum (by decide +kernel) (pa_cons (pv 2) pa_nil))))), ?_⟩
    have hb : ∀ {H' : Hp}, Same H H' → WebT H' t n ps := fun s' => W.kp (Same.kp s')
    refine ⟨by show 1 ≤ sizeLine; decide, fun L1 h1 => ?_⟩
    have s1 : Same H (upd H L1 (.lst [.int 1])) := same_new (Same.refl H) h1
    refine ⟨_, rfl, t, _, _, _, rfl, rfl, SqT.of (s1 _ _ ht), rfl, L1, _, _, rfl, rfl, upd_same, by omega, by omega, by rw [sizeLine_eq]; simp only [List.length_cons, List.length_nil]; omega, fun p hp => ?_⟩
    have s2 : Same H (upd (upd H L1 (.lst [.int 1])) p (.lst (List.replicate ((n : Int)).toNat [V.int 1]).flatten)) := same_new s1 (by
      by_cases z : p = L1
      · rw [z, upd_same] at hp
        cases hp
      · exact hp)
    have h2 : upd (upd H L1 (.lst [.int 1])) p (.lst (List.replicate ((n : Int)).toNat [V.int 1]).flatten) p = some (.lst (nums (cntL n ps 0))) := by
      rw [upd_same]
      exact congrArg (fun l => some (HO.lst l)) (rep_nums n 1)
    generalize upd (upd H L1 (.lst [.int 1])) p (.lst (List.replicate ((n : Int)).toNat [V.int 1]).flatten) = H2 at s2 h2
    refine ⟨_, rfl, _, rfl, by omega, by omega, for_range (lo := 0) (n := k) (fun i σ H' => ∃ (v3 : Option V) (L : Addr), σ = [some (.ref t), some (.int k), some (.ref L), v3, none, none] ∧ H' L = some (.lst (nums (cntL n ps i))) ∧ Same H H')
      ⟨none, p, rfl, h2, s2⟩ ?_ ?_⟩
    · rintro i σ H3 hi ⟨v3, L, rfl, hL, s3⟩
      refine ⟨_, rfl, t, _, _, _, rfl, rfl, SqT.of (s3 _ _ ht), rfl, _, rfl, by omega, by omega, fun D hD => ?_⟩
      refine lc_range (lo := 0) (n := n) (fun r H' => H' D = some (.lst (nums ((List.range r).map fun r => sm (idxs (ps.map (·.1)) r 0) fun a => (cntL n ps i).getD (ps.getD a (0, 0)).2 0))) ∧ Same H3 H')
        ⟨upd_same, same_new (Same.refl H3) hD⟩ ?_ ?_
      · rintro r H4 hr' ⟨hD4, s4⟩
        refine ⟨rfl, _, rfl, _, rfl, t, n, ps, r, by rw [Int.zero_add]; rfl, hb (s3.trans s4), hlen, fun H5 l s5 n5 h5 => ?_⟩
        refine ⟨l, rfl, ⟨_, SqL.of h5⟩, fun D2 hD2 => ?_⟩
        refine lc_list (K := K) (a := l) (xs := nums (idxs (ps.map (·.1)) r 0)) (fun j H' => H' D2 = some (.lst (nums (((idxs (ps.map (·.1)) r 0).take j).map fun a => (cntL n ps i).getD (ps.getD a (0, 0)).2 0))) ∧ Same H5 H')
          ⟨upd_same, same_new (Same.refl H5) hD2⟩ (fun j H' _ ⟨_, s'⟩ => SqL.of (s' _ _ h5)) ?_ ?_
        · rintro j y H6 hy ⟨hD6, s6⟩
          obtain ⟨a, ha, rfl⟩ := nums_get hy
          have hal : a < ps.length := by
            have z := (idxs_lt _ _ _ _ (List.mem_of_getElem? ha)).2
            rw [List.length_map] at z
            omega
          have hp' : ps[a]? = some ps[a] := List.getElem?_eq_getElem hal
          obtain ⟨c, hc, hcp⟩ := pair_at hP hp'
          have t6 : Same H H6 := ((s3.trans s4).trans s5).trans s6
          have eg : ps.getD a (0, 0) = ps[a] := by rw [List.getD_eq_getElem?_getD, hp']; rfl
          have hlt : ps[a].2 < (cntL n ps i).length := by rw [cntL_len]; exact (hG.2.1 _ (List.getElem_mem hal)).2
          have hv : (nums (cntL n ps i))[ps[a].2]? = some (.int (((cntL n ps i).getD (ps.getD a (0, 0)).2 0 : Nat) : Int)) := nums_at (by
            rw [eg, List.getD_eq_getElem?_getD, List.getElem?_eq_getElem hlt]
            rfl)
          refine ⟨rfl, _, rfl, _, rfl, t, _, _, _, rfl, rfl, SqT.of (t6 _ _ ht), rfl, _, rfl, q, _, _, _, rfl, rfl, ((Same.kp t6).f hq).sq, atI_nat hc, c, _, _, _, rfl, rfl, SqT.of (t6 _ _ hcp), rfl, L, _, _, _, rfl, rfl, SqL.of (((s4.trans s5).trans s6) _ _ hL), atI_nat hv, _, hD6, ?_, ?_, same_put s6 hD2⟩
          · rw [sizeLine_eq]
            unfold nums
            rw [List.length_map, List.length_map]
            have z1 := List.length_take_le' j (idxs (ps.map (·.1)) r 0)
            have z2 := idxs_len r (ps.map (·.1)) 0
            rw [List.length_map] at z2
            omega
          · rw [upd_same, take_snoc ha, List.map_append]
            exact congrArg (fun l => some (HO.lst l)) (nums_snoc _ _).symm
        · rintro H6 ⟨hD6, s6⟩
          have el : (nums (idxs (ps.map (·.1)) r 0)).length = (idxs (ps.map (·.1)) r 0).length := by unfold nums; rw [List.length_map]
          rw [el, List.take_length, numsI] at hD6
          refine ⟨D2, _, rfl, SqL.of hD6, ?_⟩
          rw [nums_sum, sm_id]
          refine ⟨_, (s5.trans s6) _ _ hD4, ?_, ?_, same_put ((s4.trans s5).trans s6) hD⟩
          · rw [sizeLine_eq]
            unfold nums
            rw [List.length_map, List.length_map, List.length_range]
            omega
          · rw [upd_same, List.range_succ, List.map_append]
            exact congrArg (fun l => some (HO.lst l)) (nums_snoc _ _).symm
      · rintro H4 ⟨hD4, s4⟩
        exact ⟨_, D, rfl, hD4, s3.trans s4⟩
    · rintro σ H3 ⟨v3, L, rfl, hL, s3⟩
      rw [numsI] at hL
      refine ⟨_, rfl, L, _, rfl, SqL.of hL, ?_⟩
      rw [sumI]
      exact kk H3 s3
abbrev nLRows : List Str := ["_law_w", "_law_length", "_law_found", "_law_step", "_law_later", "_law_row", "_law_arrow"]
theorem scLRows : FnScope nLRows ["_law_w", "_law_length"] (defScope sLRows) := ⟨rfl, rfl, rfl, by decide +kernel, rfl, by decide +kernel, by decide +kernel⟩
theorem ok_lrows {f fO : Addr} {fd fdO : FuncData} (F : Fun K "_law_rows" "_law_rows" sLRows f fd) (GO : FnOk P w K mg base CX0 2 fO fdO ["_law_w", "_law_arrow"] spLOn) (bO : Binds K fdO ["_law_w", "_law_arrow"] []) (mO : mg "_law_on" = some (.ref fO)) (kO : PySem.W.keepIn K (.ref fO) = true)
    (mRange : mg "range" = none) (mLen : mg "len" = none) : FnOk P w K mg base CX0 3 f fd ["_law_w", "_law_length"] spLRows := by
  refine F.ok scLRows (fun vs H Q E h => ?_) (fun cdv A outer s H vs Q E hr h => ?_)
  · obtain ⟨t, n, ps, k, rfl, _⟩ := h
    rfl
  · obtain ⟨t, n, ps, k, rfl, W, hlen, hk, hbig, kk⟩ := h
    obtain ⟨q, as, ht, hq, hP, hG⟩ := id W
    refine ⟨_, pss_cons (ps_setLc (i := 2) (own := [("_law_arrow", 6)]) (g := gName 6) (tt := tYes) rfl scLRows.nd rfl rfl (sw_true rfl rfl rfl (by decide +kernel)) (pi_range1 (by rfl) mRange (pa_cons (pe_callB call_len_seq (by rfl) mLen PySem.boot_len (pa_cons (pe_ix ix_tup (pv 0) pe_int (fun _ _ => rfl)) pa_nil)) pa_nil))
          (blkOk_by (own := [("_law_arrow", 6)]) (N := nLRows) (sc := defScope sLRows) (by decide +kernel)) (fun _ _ _ _ _ => pg_name (i := 6) scLRows.nd rfl (Or.inl rfl)) (fun _ _ _ _ _ => pts_nil) (fun _ _ _ _ _ => pe_tup (pa_cons (pv 6) pa_nil)))
      (pss_cons (ps_for PassesOwn.never rfl (pi_range1 (by rfl) mRange (pa_cons (pe_op op_sub (pv 1) pe_int) pa_nil)) (pg_name (i := 3) scLRows.nd rfl (Or.inl rfl))
        (pss_cons (ps_set (i := 4) scLRows.nd rfl (Or.inl rfl) (pe_lst pa_nil))
        (pss_cons (ps_for PassesOwn.never rfl (pi_list (pv 2)) (pg_name (i := 5) scLRows.nd rfl (Or.inr rfl))
          (pss_one (ps_set (i := 4) scLRows.nd rfl (Or.inl rfl) (pe_op op_cat (pv 4) (pe_lc (own := [("_law_arrow", 6)]) (g := gName 6) (tt := tYes) rfl scLRows.nd (pi_list (pe_call GO hr rfl mO kO bO .nil pass0 (pa_cons (pv 0) (pa_cons (pe_ix ix_tup (pv 5) (pe_un un_neg pe_int) (fun _ _ => rfl)) pa_nil))))
            (blkOk_by (own := [("_law_arrow", 6)]) (N := nLRows) (sc := defScope sLRows) (by decide +kernel)) (fun _ _ _ _ _ => pg_name (i := 6) scLRows.nd rfl (Or.inl rfl)) (fun _ _ _ _ _ => pts_nil) (fun _ _ _ _ _ => pe_op (op_catTK (K := K) rfl) (pv 5) (pe_tup (pa_cons (pv 6) pa_nil))))))))
        (pss_one (ps_set (i := 2) scLRows.nd rfl (Or.inl rfl) (pv 4))))))
      (pss_one (ps_ret (pv 2)))), ?_⟩
    have hb : ∀ {H' : Hp}, Same H H' → WebT H' t n ps := fun s' => W.kp (Same.kp s')
    have hal : as.length = ps.length := Paired.length hP
    refine ⟨_, rfl, t, _, _, _, rfl, rfl, SqT.of ht, rfl, q, _, rfl, .inr hq.sq, _, rfl, by omega, by omega, fun D hD => ?_⟩
    refine lc_range (lo := 0) (n := as.length) (fun i H' => ∃ vs : List V, H' D = some (.lst vs) ∧ RowsIn H' vs ((List.range i).map fun a => [a]) ∧ Same H H')
      ⟨[], upd_same, .nil, same_new (Same.refl H) hD⟩ ?_ ?_
    · rintro i H1 hi ⟨vs, hD1, hR1, s1⟩
      refine ⟨rfl, _, rfl, by show 1 ≤ sizeLine; decide, fun U hU => ?_⟩
      have nDU : D ≠ U := ne_of_none hD1 hU
      have hD2 : upd H1 U (.tup [.int (0 + (i : Nat))]) D = some (.lst vs) := by rw [upd_ne nDU]; exact hD1
      have hvl : vs.length = i := by
        have z := Paired.length hR1
        rw [List.length_map, List.length_range] at z
        exact z
      refine ⟨vs, hD2, by rw [sizeLine_eq]; omega, vs ++ [.ref U], upd_same, ?_, same_put (same_new s1 hU) hD⟩
      rw [List.range_succ, List.map_append]
      refine paired_snoc (RowsIn.kp ((Kp.new hU).trans (Kp.put hD2)) hR1) ⟨U, rfl, ?_⟩
      rw [upd_ne nDU.symm, upd_same]
      show some (HO.tup [.int (0 + (i : Int))]) = some (HO.tup [.int (i : Int)])
      rw [Int.zero_add]
    rintro H1 ⟨vs1, hD1, hR1, s1⟩
    rw [hal] at hR1
    refine ⟨_, rfl, _, _, rfl, rfl, ?_⟩
    dsimp only
    rw [show ((k + 1 : Nat) : Int) - 1 = (k : Int) by omega]
    refine ⟨_, rfl, by omega, by omega, for_range (lo := 0) (n := k) (D := { nx := tRet (tVar 2) { nx := fun _ H' => Q .non H', rt := Q }, rt := Q }) (fun i σ H' => ∃ (v3 v4 v5 : Option V) (L : Addr) (vs : List V), σ = [some (.ref t), some (.int ((k + 1 : Nat) : Int)), some (.ref L), v3, v4, v5, none] ∧ H L = none ∧ H' L = some (.lst vs) ∧ RowsIn H' vs (rowsF ps i) ∧ Same H H')
      ⟨none, none, none, D, vs1, rfl, hD, hD1, hR1, s1⟩ ?_ ?_⟩
    · rintro i σ H2 hi ⟨v3, v4, v5, L, vs, rfl, nL, hL, hR, s2⟩
      have big := hbig (i + 1) (by omega)
      refine ⟨Nat.zero_le _, fun M hM => ?_⟩
      have sM : Same H2 (upd H2 M (.lst [])) := same_new (Same.refl H2) hM
      have hvl : vs.length = (rowsF ps i).length := Paired.length hR
      refine ⟨_, rfl, L, rfl, ⟨_, SqL.of (sM _ _ hL)⟩, for_list (K := K) (a := L) (xs := vs) (fun j σ H' => ∃ (v3 v5 : Option V) (M : Addr) (us : List V), σ = [some (.ref t), some (.int ((k + 1 : Nat) : Int)), some (.ref L), v3, some (.ref M), v5, none] ∧ H2 M = none ∧ H' M = some (.lst us) ∧
          RowsIn H' us (((rowsF ps i).take j).flatMap fun r => (onOf ps (r.getLastD 0)).map fun a => r ++ [a]) ∧ Same H2 H')
        ⟨_, _, M, [], rfl, hM, upd_same, .nil, sM⟩ (fun j σ H' _ ⟨_, _, _, _, _, _, _, _, s'⟩ => SqL.of (s' _ _ hL)) ?_ ?_⟩
      · rintro j y σ H3 hy ⟨w3, w5, M, us, rfl, nM, hM3, hU3, s3⟩
        obtain ⟨r, hr', ⟨c, rfl, hc⟩⟩ := paired_at hR hy
        have hrm := List.mem_of_getElem? hr'
        have hrn := rowsF_ne hrm
        have hrl := rowsF_len hrm
        have t3 : Same H H3 := s2.trans s3
        refine ⟨_, rfl, _, rfl, _, rfl, _, rfl, c, _, _, _, rfl, rfl, SqT.of (s3 _ _ hc), at_last hrn, t, n, ps, r.getLastD 0, rfl, hb t3, hlen, rowsF_lt hrm _ (last_mem hrn), fun H4 l s4 n4 h4 => ?_⟩
        refine ⟨l, rfl, ⟨_, SqL.of h4⟩, fun D2 hD2 => ?_⟩
        refine lc_list (K := K) (a := l) (xs := nums (onOf ps (r.getLastD 0))) (fun m H' => ∃ zs : List V, H' D2 = some (.lst zs) ∧ RowsIn H' zs (((onOf ps (r.getLastD 0)).take m).map fun a => r ++ [a]) ∧ Same H4 H')
          ⟨[], upd_same, .nil, same_new (Same.refl H4) hD2⟩ (fun m H' _ ⟨_, _, _, s'⟩ => SqL.of (s' _ _ h4)) ?_ ?_
        · rintro m y H5 hy ⟨zs, hD5, hZ5, s5⟩
          obtain ⟨a, ha, rfl⟩ := nums_get hy
          have hc5 := ((s3.trans s4).trans s5) _ _ hc
          refine ⟨rfl, _, rfl, _, rfl, by show 1 ≤ sizeLine; decide, fun U hU => ?_⟩
          have e6 : Same H5 (upd H5 U (.tup [.int (a : Int)])) := same_new (Same.refl H5) hU
          have ln : (nums r).length = r.length := by unfold nums; rw [List.length_map]
          refine ⟨c, U, _, _, rfl, rfl, SqT.of (e6 _ _ hc5), SqT.of upd_same, ?_, ?_, fun z => ?_, fun _ p hp => ?_⟩
          · intro z
            rw [z] at ln
            simp at ln
            omega
          · rw [sizeLine_eq, ln]
            show r.length + 1 ≤ _
            omega
          · cases z
          have e7 : Same H5 (upd (upd H5 U (.tup [.int (a : Int)])) p (.tup (nums r ++ [.int (a : Int)]))) := e6.trans (same_new (Same.refl _) hp)
          have hzl : zs.length ≤ 500 := by
            have z := Paired.length hZ5
            rw [List.length_map] at z
            have z1 := List.length_take_le' m (onOf ps (r.getLastD 0))
            have z2 := idxs_len (ps.getD (r.getLastD 0) (0, 0)).2 (ps.map (·.1)) 0
            rw [List.length_map] at z2
            unfold onOf at z1 z
            omega
          have hD7 := e7 _ _ hD5
          refine ⟨zs, hD7, by rw [sizeLine_eq]; omega, zs ++ [.ref p], upd_same, ?_, same_put (s5.trans e7) hD2⟩
          rw [take_snoc ha, List.map_append]
          refine paired_snoc (RowsIn.kp ((Same.kp e7).trans (Kp.put hD7)) hZ5) ⟨p, rfl, ?_⟩
          rw [upd_ne (ne_of (show upd (upd H5 U (.tup [.int (a : Int)])) p (.tup (nums r ++ [.int (a : Int)])) p = _ from upd_same) hD7 (by intro z; cases z)), upd_same, nums_snoc]
        · rintro H5 ⟨zs, hD5, hZ5, s5⟩
          have el : (nums (onOf ps (r.getLastD 0))).length = (onOf ps (r.getLastD 0)).length := by unfold nums; rw [List.length_map]
          rw [el, List.take_length] at hZ5
          have t5 : Same H3 H5 := s4.trans s5
          have full : RowsIn H5 (us ++ zs) (((rowsF ps i).take (j + 1)).flatMap fun r => (onOf ps (r.getLastD 0)).map fun a => r ++ [a]) := by
            rw [take_snoc hr', List.flatMap_append, List.flatMap_singleton]
            exact paired_append (RowsIn.kp (Same.kp t5) hU3) hZ5
          have fl : us.length + zs.length ≤ 100000 := by
            have z := Paired.length full
            rw [List.length_append] at z
            have y := flat_take (fun r => (onOf ps (r.getLastD 0)).map fun a => r ++ [a]) (rowsF ps i) (j + 1)
            have x : ((rowsF ps i).flatMap fun r => (onOf ps (r.getLastD 0)).map fun a => r ++ [a]).length ≤ 100000 := big
            omega
          refine ⟨M, D2, us, zs, rfl, rfl, t5 _ _ hM3, hD5, by rw [sizeLine_eq]; omega, fun p hp => ?_⟩
          have e6 := s3.trans (t5.trans (same_new (o := .lst (us ++ zs)) (Same.refl H5) hp))
          exact ⟨_, _, p, us ++ zs, rfl, (s3.trans t5).free hp, upd_same, RowsIn.kp (Kp.new hp) full, e6⟩
      · rintro σ H3 ⟨w3, w5, M, us, rfl, nM, hM3, hU3, s3⟩
        rw [hvl, List.take_length] at hU3
        exact ⟨_, rfl, _, _, _, M, us, rfl, s2.free nM, hM3, hU3, s2.trans s3⟩
    · rintro σ H2 ⟨v3, v4, v5, L, vs, rfl, nL, hL, hR, s2⟩
      exact ⟨_, rfl, kk H2 L vs s2 nL hL hR⟩
end
end KW


set_option Elab.async false
set_option maxRecDepth 100000
set_option maxHeartbeats 2000000
/-! Rounds: the law's own sums; one arrow more. -/
namespace KW
open PySem PySem.Spec PyProof.Rows L2
def spLRounds : Sp := fun vs H Q _ => ∃ (t : Addr) (n : Nat) (ps : List (Nat × Nat)) (k : Nat), vs = [.ref t, .int k] ∧ WebT H t n ps ∧ n ≤ 500 ∧ ps.length ≤ 500 ∧ k ≤ 1000 ∧ ∀ H' : Hp, Same H H' → Q (.int (rnd n ps k : Nat)) H'
/-- a list of lists of numbers -/
def LsIn (H : Hp) (vs : List V) (cs : List (List Nat)) : Prop := Paired (fun v c => ∃ a, v = V.ref a ∧ H a = some (.lst (nums c))) vs cs
def stepL (n : Nat) (ps : List (Nat × Nat)) (c : List Nat) : List Nat := (List.range n).map (nxt ps fun i => c.getD i 0)
def spOneMore : Sp := fun vs H Q _ => ∃ (a q : Addr) (n : Nat) (us as : List V) (cs : List (List Nat)) (ps : List (Nat × Nat)), vs = [.ref a, .ref q] ∧ H a = some (.lst us) ∧ LsIn H us cs ∧ FzT H q as ∧ PairsIn H as ps ∧ (∀ p ∈ ps, p.1 < n ∧ p.2 < n) ∧ (∀ c ∈ cs, c.length = n) ∧ cs.length ≤ 500 ∧ n ≤ 500 ∧
  ∀ (H' : Hp) (l : Addr) (us' : List V), Same H H' → H l = none → H' l = some (.lst us') → LsIn H' us' (cs.map (stepL n ps)) → Q (.ref l) H'
theorem nxt_nil (c : Nat → Nat) (j : Nat) : nxt [] c j = 0 := rfl
theorem nxt_snoc (ps : List (Nat × Nat)) (p : Nat × Nat) (c : Nat → Nat) (j : Nat) : nxt (ps ++ [p]) c j = nxt ps c j + (if p.2 = j then c p.1 else 0) := by
  unfold nxt
  rw [sm_app, sm_cons, sm_nil, Nat.add_zero]
theorem range_get {n r : Nat} (f : Nat → Nat) (h : r < n) : ((List.range n).map f)[r]? = some (f r) := by
  rw [List.getElem?_map, List.getElem?_range h]
  rfl
theorem part_set {n : Nat} {ps : List (Nat × Nat)} {p : Nat × Nat} {c : Nat → Nat} : ((List.range n).map (nxt ps c)).set p.2 (nxt ps c p.2 + c p.1) = (List.range n).map (nxt (ps ++ [p]) c) := by
  refine List.ext_getElem? fun r => ?_
  by_cases hr : r < n
  · rw [range_get _ hr, nxt_snoc]
    by_cases e : p.2 = r
    · rw [← e, List.getElem?_set_self (by rw [List.length_map, List.length_range, e]; exact hr), if_pos rfl]
    · rw [List.getElem?_set_ne e, range_get _ hr, if_neg e, Nat.add_zero]
  · rw [List.getElem?_eq_none (by rw [List.length_set, List.length_map, List.length_range]; omega), List.getElem?_eq_none (by rw [List.length_map, List.length_range]; omega)]
theorem nums_set (l : List Nat) (i x : Nat) : (nums l).set i (.int (x : Int)) = nums (l.set i x) := by
  unfold nums
  rw [List.map_set]
  rfl
theorem ixN_of' {n k : Nat} (h : k < n) : ixN n (k : Int) = some k := by
  unfold ixN
  rw [if_pos (by omega), if_pos (by omega)]
  simp
theorem LsIn.to {H H' : Hp} : ∀ {vs : List V} {cs : List (List Nat)}, LsIn H vs cs → (∀ a o, V.ref a ∈ vs → H a = some o → H' a = some o) → LsIn H' vs cs
  | _, _, .nil, _ => .nil
  | _, _, .cons ⟨a, e, h⟩ r, k => .cons ⟨a, e, k a _ (by rw [e]; exact List.mem_cons_self) h⟩ (LsIn.to r fun b o hb => k b o (List.mem_cons_of_mem _ hb))
section
variable {P : Program} {w : World} {K : PySem.W.Frag} {mg : Str → Option Value} {base : Heap}
abbrev nLRounds : List Str := ["_law_w", "_law_length", "_law_many_here", "_law_home", "_law_row", "_law_step", "_law_room", "_law_arrow"]
abbrev nOneMore : List Str := ["ways", "pairs", "longer", "counts", "reached", "begin", "end"]
end
end KW


set_option Elab.async false
set_option maxRecDepth 100000
set_option maxHeartbeats 2000000
/-! Web.rounds, with its refusal. -/
namespace KW
open PySem PySem.Spec PyProof.Rows L2
abbrev sWinInit : Stmt := inClass (topS 13) 0
abbrev sRounds : Stmt := inClass sWebClass 12
/-- a walk over a list, whatever is done with each item -/
theorem loop_list {K : PySem.W.Frag} {a : Addr} {xs : List V} {H0 : Hp} {Qd : Hp → Prop} {B : V → Hp → (Hp → Prop) → Prop} (Pv : Nat → Hp → Prop) (start : Pv 0 H0) (stays : ∀ i H, i ≤ xs.length → Pv i H → SqL K H a xs) (turn : ∀ i x H, xs[i]? = some x → Pv i H → B x H (Pv (i + 1))) (last : ∀ H, Pv xs.length H → Qd H) :
    ∃ W : Nat → Nat → Hp → Prop, (∃ m, W 0 m H0) ∧ ∀ i m H, W i m H → ((Itl K a).stop i H ∧ Qd H) ∨ ((Itl K a).go i H ∧ ∃ Nx : Hp → Prop, (∀ H', Nx H' → ∃ m', m' < m ∧ W (i + 1) m' H') ∧ ∀ x H', (Itl K a).yld i H x H' → B x H' Nx) := by
  refine ⟨fun j r G => r + j = xs.length ∧ Pv j G, ⟨xs.length, rfl, start⟩, fun j r G ⟨le, pv⟩ => ?_⟩
  have here := stays j G (by omega) pv
  cases r with
  | zero =>
    have full : j = xs.length := by omega
    exact .inl ⟨⟨xs, here, by omega⟩, last G (full ▸ pv)⟩
  | succ r =>
    refine .inr ⟨⟨xs, xs[j]'(by omega), here, by simp⟩, Pv (j + 1), fun G' pv' => ⟨r, by omega, by omega, pv'⟩, fun x G' y => ?_⟩
    rw [y.1]
    exact turn j x G (y.2 xs here) pv
def spRoundsR (C CB : Addr) : Sp := fun vs H Q E => ∃ (x : Addr) (n : Nat) (ps : List (Nat × Nat)) (i : Int), vs = [.ref x, .int i] ∧ WebAt C H x n ps ∧ (∀ p ∈ ps, p.1 < n ∧ p.2 < n) ∧ n ≤ 100 ∧ ps.length ≤ 500 ∧
  (∀ k : Nat, i = (k : Int) → 1 ≤ k → k ≤ 60 → ∀ H' : Hp, Same H H' → Q (.int (rnd n ps k : Nat)) H') ∧ (¬ (1 ≤ i ∧ i ≤ 60) → Refuse CB "BadWindow" [] H E)
theorem step_ways {n : Nat} {ps : List (Nat × Nat)} (h : ∀ p ∈ ps, p.1 < n ∧ p.2 < n) (j i : Nat) : stepL n ps ((List.range n).map (ways ps j i)) = (List.range n).map (ways ps (j + 1) i) := by
  unfold stepL
  refine List.map_congr_left fun r _ => ?_
  rw [ways_succ]
  unfold nxt
  refine sm_congr fun p hp => ?_
  show (if p.2 = r then ((List.range n).map (ways ps j i)).getD p.1 0 else 0) = _
  rw [List.getD_eq_getElem?_getD, range_get _ (h p hp).1]
  rfl
theorem range_at {n j a : Nat} (h : (List.range n)[j]? = some a) : a = j ∧ j < n := by
  have hj : j < n := by
    have z := (List.getElem?_eq_some_iff.mp h).1
    rw [List.length_range] at z
    exact z
  rw [List.getElem?_range hj] at h
  exact ⟨(Option.some.inj h).symm, hj⟩
theorem flat_bound {n i : Nat} (f : Nat → Nat → Nat) (hi : i ≤ n) (hn : n ≤ 100) : ((List.range i).flatMap fun a => (List.range n).map (f a)).length ≤ 10000 := by
  have e : ((List.range i).flatMap fun a => (List.range n).map (f a)).length = i * n := by
    rw [List.length_flatMap]
    have : ((List.range i).map fun a => ((List.range n).map (f a)).length) = List.replicate i n := by
      refine List.ext_getElem? fun r => ?_
      rw [List.getElem?_map, List.getElem?_replicate]
      by_cases hr : r < i
      · rw [List.getElem?_range hr, if_pos hr]
        simp
      · rw [List.getElem?_eq_none (by rw [List.length_range]; omega), if_neg hr]
        rfl
    rw [this, List.sum_replicate_nat]
  rw [e]
  exact Nat.le_trans (Nat.mul_le_mul hi (Nat.le_refl n)) (Nat.le_trans (Nat.mul_le_mul hn hn) (by decide))
theorem ways_small {ps : List (Nat × Nat)} (h : ps.length ≤ 500) {k : Nat} (hk : k ≤ 61) (i j : Nat) : ((ways ps k i j : Nat) : Int).natAbs < 2 ^ 600 := by
  have h1 := ways_le (ps := ps) k i j
  have h2 : ps.length ^ k ≤ 512 ^ k := Nat.pow_le_pow_left (by omega) k
  have h3 : 512 ^ k ≤ 512 ^ 61 := Nat.pow_le_pow_right (by decide) hk
  have h4 : 512 ^ 61 < 2 ^ 600 := by decide +kernel
  rw [Int.natAbs_natCast]
  omega
/-- all the ways of k arrows -/
def allW (n : Nat) (ps : List (Nat × Nat)) (k : Nat) : List (List Nat) := (List.range n).map fun s => (List.range n).map (ways ps k s)
theorem allW_step {n : Nat} {ps : List (Nat × Nat)} (h : ∀ p ∈ ps, p.1 < n ∧ p.2 < n) (k : Nat) : (allW n ps k).map (stepL n ps) = allW n ps (k + 1) := by
  unfold allW
  rw [List.map_map]
  exact List.map_congr_left fun s _ => step_ways h k s
theorem allW_len {n : Nat} {ps : List (Nat × Nat)} {k : Nat} : (allW n ps k).length = n ∧ ∀ c ∈ allW n ps k, c.length = n := by
  refine ⟨by unfold allW; rw [List.length_map, List.length_range], fun c hc => ?_⟩
  obtain ⟨s, _, e⟩ := List.mem_map.mp hc
  rw [← e, List.length_map, List.length_range]
theorem allW_at {H : Hp} {vs : List V} {n : Nat} {ps : List (Nat × Nat)} {k i j : Nat} (h : LsIn H vs (allW n ps k)) (hi : i < n) (hj : j < n) : ∃ a, vs[i]? = some (.ref a) ∧ H a = some (.lst (nums ((List.range n).map (ways ps k i)))) ∧ (nums ((List.range n).map (ways ps k i)))[j]? = some (.int ((ways ps k i j : Nat) : Int)) := by
  have hl : vs.length = n := (Paired.length h).trans allW_len.1
  have hv : vs[i]? = some vs[i] := List.getElem?_eq_getElem (by omega)
  obtain ⟨c, hc, a, e, ha⟩ := paired_at h hv
  have ec : c = (List.range n).map (ways ps k i) := by
    unfold allW at hc
    rw [List.getElem?_map, List.getElem?_range hi] at hc
    exact (Option.some.inj hc).symm
  rw [ec] at ha
  exact ⟨a, by rw [hv, e], ha, nums_at (range_get _ hj)⟩
section
variable {P : Program} {w : World} {K : PySem.W.Frag} {mg : Str → Option Value} {base : Heap}
theorem scWin : FnScope ["self"] ["self"] (defScope sWinInit) := ⟨rfl, rfl, rfl, by decide +kernel, rfl, by decide +kernel, by decide +kernel⟩
theorem ok_badwindow {f fF CF : Addr} {fd fdF : FuncData} (F : Fun K "__init__" "BadWindow.__init__" sWinInit f fd) (Z : FoldC K mg CF fF) (GF : FnOk P w K mg base CX0 1 fF fdF ["self", "why"] (spFoldInit K)) (bF : Binds K fdF ["self", "why"] []) :
    FnOk P w K mg base CX0 2 f fd ["self"] (spInit0 K "BadWindow") := by
  refine F.ok scWin (fun vs H Q E h => ?_) (fun cdv A outer s H vs Q E room h => ?_)
  · obtain ⟨a, C, rfl, _⟩ := h
    rfl
  · obtain ⟨a, C, rfl, R, ha, k⟩ := h
    obtain ⟨mc, rd, found⟩ := Z.rd
    refine ⟨_, pss_cons (ps_expr (pe_ucall (pe_glob (v := .ref CF) rfl Z.gl rfl) rd found GF room Z.kp bF pass0 (pa_cons (pv 0) (pa_cons pe_str pa_nil)))) (pss_one (ps_ost (pv 0) pe_str)), ?_⟩
    refine ⟨rfl, _, rfl, a, C, _, rfl, R, ha, fun dx n1 n2 => ?_⟩
    exact ⟨_, rfl, a, C, rfl, R.ox, R.nw, .inr ⟨dx, _, upd_same, by rw [upd_ne n2, upd_same], by show 1 ≤ 900; decide, k dx n1 n2⟩⟩
abbrev nRounds : List Str := ["self", "length", "rooms", "there", "step", "back", "room", "start", "one", "other"]
theorem scRounds : FnScope nRounds ["self", "length"] (defScope sRounds) := ⟨rfl, rfl, rfl, by decide +kernel, rfl, by decide +kernel, by decide +kernel⟩
end
end KW


set_option Elab.async false
set_option maxRecDepth 100000
set_option maxHeartbeats 2000000
/-! Web.many, Web.after, Web.rows with their refusals. -/
namespace KW
open PySem PySem.Spec PyProof.Rows L2
abbrev sTooMany : Stmt := inClass (topS 16) 0
abbrev sMany : Stmt := inClass sWebClass 11
abbrev sWRows : Stmt := inClass sWebClass 13
abbrev sAfter : Stmt := inClass sWebClass 16
/-- a walk over a tuple, whatever is done with each item -/
theorem loop_tup {K : PySem.W.Frag} {a : Addr} {xs : List V} {H0 : Hp} {Qd : Hp → Prop} {B : V → Hp → (Hp → Prop) → Prop} (Pv : Nat → Hp → Prop) (start : Pv 0 H0) (stays : ∀ i H, i ≤ xs.length → Pv i H → SqT K H a xs) (turn : ∀ i x H, xs[i]? = some x → Pv i H → B x H (Pv (i + 1))) (last : ∀ H, Pv xs.length H → Qd H) :
    ∃ W : Nat → Nat → Hp → Prop, (∃ m, W 0 m H0) ∧ ∀ i m H, W i m H → ((Itt K a).stop i H ∧ Qd H) ∨ ((Itt K a).go i H ∧ ∃ Nx : Hp → Prop, (∀ H', Nx H' → ∃ m', m' < m ∧ W (i + 1) m' H') ∧ ∀ x H', (Itt K a).yld i H x H' → B x H' Nx) := by
  refine ⟨fun j r G => r + j = xs.length ∧ Pv j G, ⟨xs.length, rfl, start⟩, fun j r G ⟨le, pv⟩ => ?_⟩
  have here := stays j G (by omega) pv
  cases r with
  | zero =>
    have full : j = xs.length := by omega
    exact .inl ⟨⟨xs, here, by omega⟩, last G (full ▸ pv)⟩
  | succ r =>
    refine .inr ⟨⟨xs, xs[j]'(by omega), here, by simp⟩, Pv (j + 1), fun G' pv' => ⟨r, by omega, by omega, pv'⟩, fun x G' y => ?_⟩
    rw [y.1]
    exact turn j x G (y.2 xs here) pv
theorem rowsF_end {n : Nat} {ps : List (Nat × Nat)} (h : ∀ p ∈ ps, p.1 < n ∧ p.2 < n) {k : Nat} {r : List Nat} (hr : r ∈ rowsF ps k) : end_ ps r < n := by
  have hl := rowsF_lt hr _ (last_mem (rowsF_ne hr))
  unfold end_
  rw [List.getD_eq_getElem?_getD, List.getElem?_eq_getElem hl]
  exact (h _ (List.getElem_mem hl)).2
theorem len_sm {α : Type} (xs : List α) : xs.length = sm xs fun _ => 1 := by
  unfold sm
  rw [List.map_const', List.sum_replicate_nat, Nat.mul_one]
theorem cnt_end {n : Nat} {ps : List (Nat × Nat)} (h : ∀ p ∈ ps, p.1 < n ∧ p.2 < n) : ∀ j k : Nat, sm (rowsF ps k) (fun r => (cntL n ps j).getD (end_ ps r) 0) = (rowsF ps (k + j)).length
  | 0, k => by
    rw [len_sm]
    refine sm_congr fun r hr => ?_
    unfold cntL
    rw [List.getD_eq_getElem?_getD, List.getElem?_replicate, if_pos (rowsF_end h hr)]
    rfl
  | j + 1, k => by
    have z := cnt_end h j (k + 1)
    rw [show k + (j + 1) = k + 1 + j by omega, ← z]
    show _ = sm ((rowsF ps k).flatMap fun r => (onOf ps (r.getLastD 0)).map fun a => r ++ [a]) _
    rw [sm_flat]
    refine sm_congr fun r hr => ?_
    rw [sm_map]
    have e : (cntL n ps (j + 1)).getD (end_ ps r) 0 = sm (idxs (ps.map (·.1)) (end_ ps r) 0) fun a => (cntL n ps j).getD (ps.getD a (0, 0)).2 0 := by
      show ((List.range n).map _).getD _ _ = _
      rw [List.getD_eq_getElem?_getD, range_get _ (rowsF_end h hr)]
      rfl
    rw [e]
    exact sm_congr fun a _ => by rw [end_app]
/-- as many ways as rows -/
theorem cnt_rows {n : Nat} {ps : List (Nat × Nat)} (h : ∀ p ∈ ps, p.1 < n ∧ p.2 < n) (k : Nat) : (cntL n ps (k + 1)).sum = (rowsF ps k).length := by
  have z := cnt_end h k 0
  rw [Nat.zero_add] at z
  rw [← z]
  show ((List.range n).map fun r => sm (idxs (ps.map (·.1)) r 0) fun a => (cntL n ps k).getD (ps.getD a (0, 0)).2 0).sum = sm ((List.range ps.length).map fun a => [a]) _
  rw [sm_map]
  show sm (List.range n) (fun r => sm (idxs (ps.map (·.1)) r 0) fun a => (cntL n ps k).getD (ps.getD a (0, 0)).2 0) = _
  have e1 : ∀ r, (sm (idxs (ps.map (·.1)) r 0) fun a => (cntL n ps k).getD (ps.getD a (0, 0)).2 0) = sm ps fun p => if p.1 = r then (cntL n ps k).getD p.2 0 else 0 := fun r => sm_idxs0 (0, 0) (fun p : Nat × Nat => (cntL n ps k).getD p.2 0) (·.1) r ps
  rw [sm_congr fun r _ => e1 r, sm_swap]
  have e2 : (sm ps fun p => sm (List.range n) fun r => if p.1 = r then (cntL n ps k).getD p.2 0 else 0) = sm ps fun p => (cntL n ps k).getD p.2 0 := sm_congr fun p hp => by
    have z := sm_one (fun _ => (cntL n ps k).getD p.2 0) (i := p.1) (n := n)
    rw [if_pos (h p hp).1] at z
    refine Eq.trans (sm_congr fun r _ => ?_) z
    by_cases e : p.1 = r
    · rw [if_pos e, if_pos e.symm]
    · rw [if_neg e, if_neg (fun y => e y.symm)]
  rw [e2, ← sm_places (0, 0) (fun p : Nat × Nat => (cntL n ps k).getD p.2 0) ps]
  rfl
theorem rowsF_mono {n : Nat} {ps : List (Nat × Nat)} (h : Good n ps) (k : Nat) : (rowsF ps k).length ≤ (rowsF ps (k + 1)).length := by
  show _ ≤ ((rowsF ps k).flatMap fun r => (onOf ps (r.getLastD 0)).map fun a => r ++ [a]).length
  have e : ((rowsF ps k).flatMap fun r => (onOf ps (r.getLastD 0)).map fun a => r ++ [a]).length = sm (rowsF ps k) fun r => (onOf ps (r.getLastD 0)).length := by
    rw [len_sm, sm_flat]
    refine sm_congr fun r _ => ?_
    rw [← len_sm, List.length_map]
  rw [e, len_sm]
  have go : ∀ xs : List (List Nat), (∀ r ∈ xs, 1 ≤ (onOf ps (r.getLastD 0)).length) → sm xs (fun _ => 1) ≤ sm xs fun r => (onOf ps (r.getLastD 0)).length := by
    intro xs
    induction xs with
    | nil => intro _; exact Nat.le_refl _
    | cons r xs ih =>
      intro hx
      rw [sm_cons, sm_cons]
      exact Nat.add_le_add (hx r List.mem_cons_self) (ih fun q hq => hx q (List.mem_cons_of_mem _ hq))
  refine go _ fun r hr => ?_
  obtain ⟨p, hp, ep⟩ := h.2.2 _ (rowsF_end h.2.1 hr)
  have z : (onOf ps (r.getLastD 0)).length = sm ps fun p => if p.1 = end_ ps r then 1 else 0 := by
    rw [len_sm]
    exact sm_idxs0 (0, 0) (fun _ : Nat × Nat => 1) (·.1) (end_ ps r) ps
  rw [z]
  have one : ∀ qs : List (Nat × Nat), p ∈ qs → 1 ≤ sm qs fun p => if p.1 = end_ ps r then 1 else 0 := by
    intro qs
    induction qs with
    | nil => intro h; exact absurd h (by simp)
    | cons q qs ih =>
      intro hq
      rw [sm_cons]
      rcases List.mem_cons.mp hq with e | e
      · rw [← e, if_pos ep]
        omega
      · have := ih e
        omega
  exact one ps hp
theorem rowsF_under {n : Nat} {ps : List (Nat × Nat)} (h : Good n ps) {k j : Nat} (hj : j ≤ k) : (rowsF ps j).length ≤ (rowsF ps k).length := by
  induction k with
  | zero => rw [show j = 0 by omega]; exact Nat.le_refl _
  | succ k ih =>
    by_cases e : j = k + 1
    · rw [e]; exact Nat.le_refl _
    · exact Nat.le_trans (ih (by omega)) (rowsF_mono h k)
def spInitM (K : PySem.W.Frag) : Sp := fun vs H Q _ => ∃ (a C : Addr) (i : Int), vs = [.ref a, .int i] ∧ RefC K C ∧ PySem.W.findIn K (.ref C) "most" = some none ∧ (i = 6 ∨ i = 600) ∧ H a = some (exo a C none) ∧
  ∀ dx, H dx = none → dx ≠ a → Q .non (upd (upd (upd (upd H dx (exd dx (w1 "FoldError"))) a (exo a C (some dx))) dx (exd dx (("word", .str "TooMany") :: w1 "FoldError"))) dx (exd dx (("most", .int i) :: ("word", .str "TooMany") :: w1 "FoldError")))
def spManyR (C CB : Addr) : Sp := fun vs H Q E => ∃ (x : Addr) (n : Nat) (ps : List (Nat × Nat)) (i : Int), vs = [.ref x, .int i] ∧ WebAt C H x n ps ∧ (∀ p ∈ ps, p.1 < n ∧ p.2 < n) ∧ n ≤ 500 ∧ ps.length ≤ 500 ∧
  (∀ k : Nat, i = (k : Int) → k ≤ 60 → ∀ H' : Hp, Same H H' → Q (.int ((cntL n ps k).sum : Nat)) H') ∧ (¬ (0 ≤ i ∧ i ≤ 60) → Refuse CB "BadWindow" [] H E)
def spAfter (C : Addr) : Sp := fun vs H Q _ => ∃ (x : Addr) (n : Nat) (ps : List (Nat × Nat)) (a : Nat), vs = [.ref x, .int a] ∧ WebAt C H x n ps ∧ (∀ p ∈ ps, p.1 < n ∧ p.2 < n) ∧ a < ps.length ∧ ∀ c, H c = some (.tup (nums (onOf ps a))) → Q (.ref c) H
def spRowsR (C CB CT : Addr) : Sp := fun vs H Q E => ∃ (x : Addr) (n : Nat) (ps : List (Nat × Nat)) (i : Int), vs = [.ref x, .int i] ∧ WebAt C H x n ps ∧ Good n ps ∧ n ≤ 500 ∧ ps.length ≤ 500 ∧
  (∀ k : Nat, i = ((k + 1 : Nat) : Int) → k + 1 ≤ 6 → (rowsF ps k).length ≤ 600 → ∀ (H' : Hp) (l : Addr) (vs : List V), Same H H' → H l = none → H' l = some (.lst vs) → RowsIn H' vs (rowsF ps k) → Q (.ref l) H') ∧
  (∀ k : Nat, i = ((k + 1 : Nat) : Int) → k + 1 ≤ 6 → 600 < (rowsF ps k).length → Refuse CT "TooMany" [("most", .int 600)] H E) ∧ (¬ (1 ≤ i ∧ i ≤ 6) → Refuse CB "BadWindow" [] H E)
section
variable {P : Program} {w : World} {K : PySem.W.Frag} {mg : Str → Option Value} {base : Heap}
theorem scTooMany : FnScope ["self", "most"] ["self", "most"] (defScope sTooMany) := ⟨rfl, rfl, rfl, by decide +kernel, rfl, by decide +kernel, by decide +kernel⟩
theorem ok_toomany {f fF CF : Addr} {fd fdF : FuncData} (F : Fun K "__init__" "TooMany.__init__" sTooMany f fd) (Z : FoldC K mg CF fF) (GF : FnOk P w K mg base CX0 1 fF fdF ["self", "why"] (spFoldInit K)) (bF : Binds K fdF ["self", "why"] []) :
    FnOk P w K mg base CX0 2 f fd ["self", "most"] (spInitM K) := by
  refine F.ok scTooMany (fun vs H Q E h => ?_) (fun cdv A outer s H vs Q E room h => ?_)
  · obtain ⟨a, C, i, rfl, _⟩ := h
    rfl
  · obtain ⟨a, C, i, rfl, R, nA, hi, ha, k⟩ := h
    obtain ⟨mc, rd, found⟩ := Z.rd
    have l1 : (toString i : Str).length ≤ 5 := by
      rcases hi with rfl | rfl
      · decide +kernel
      · decide +kernel
    have l2 : i.natAbs.log2 < 1920 := by
      have h : i.natAbs ≤ 600 := by omega
      exact Nat.lt_of_le_of_lt (Nat.log2_le_self _) (by omega)
    have c0 : Str.empty.length = 0 := by decide +kernel
    have c1 : ("more than " : Str).length = 10 := by decide +kernel
    have b1 : (Str.empty ++ "more than ").length ≤ sizeLine := by rw [str_len_append, sizeLine_eq]; omega
    have b2 : (Str.empty ++ "more than " ++ (toString i : Str)).length ≤ sizeLine := by rw [str_len_append, str_len_append, sizeLine_eq]; omega
    refine ⟨_, pss_cons (ps_expr (pe_ucall (pe_glob (v := .ref CF) rfl Z.gl rfl) rd found GF room Z.kp bF pass0 (pa_cons (pv 0) (pa_cons (pe_joined (.cons pe_str (.cons (pe_fmt (pv 1)) .nil))) pa_nil)))) (pss_cons (ps_ost (pv 0) pe_str) (pss_one (ps_ost (pv 0) (pv 1)))), ?_⟩
    refine ⟨rfl, _, rfl, _, rfl, b1, _, rfl, .inr ⟨_, rfl, l2, (toString i : Str), rfl, b2, a, C, _, rfl, R, ha, fun dx n1 n2 => ?_⟩⟩
    refine ⟨_, rfl, a, C, rfl, R.ox, R.nw, .inr ⟨dx, _, upd_same, by rw [upd_ne n2, upd_same], by show 1 ≤ 900; decide, ?_⟩⟩
    exact ⟨_, rfl, _, rfl, a, C, rfl, R.ox, nA, .inr ⟨dx, _, by rw [upd_ne n2.symm, upd_same], upd_same, by show 2 ≤ 900; decide, k dx n1 n2⟩⟩
end
/-- TooMany(i): the reading of the raise -/
theorem raiseM {K : PySem.W.Frag} {C : Addr} {i : Int} {H : Hp} {E : XK} (R : RefC K C) (nA : PySem.W.findIn K (.ref C) "most" = some none) (hi : i = 6 ∨ i = 600) (r : Refuse C "TooMany" [("most", .int i)] H E) :
    [V.int i].length ≤ 1000 ∧ ∀ a, H a = none → spInitM K (.ref a :: ([V.int i] ++ [])) (upd H a (exo a C none)) (fun v H2 => v = .non ∧ ∃ (d : Addr) (fs : List (Str × V)), H2 a = some (exo a C (some d)) ∧ H2 d = some (exd d fs) ∧ H d = none ∧ E (.ref C) (some d) (upd (del H2 a) d (.xd fs))) (fun _ _ _ => False) := by
  refine ⟨by show 1 ≤ 1000; decide, fun a na => ⟨a, C, i, rfl, R, nA, hi, upd_same, fun dx n1 n2 => ⟨rfl, dx, _, ?_, upd_same, ?_, ?_⟩⟩⟩
  · rw [upd_ne n2.symm, upd_ne n2.symm, upd_same]
  · rw [upd_ne n2] at n1
    exact n1
  · have n1' : H dx = none := by
      rw [upd_ne n2] at n1
      exact n1
    refine r dx _ _ (fun b o e => ?_) n1' upd_same (by rw [L2.lookup_put, if_neg (by decide), L2.lookup_put, if_pos rfl]) (fun p hp => ?_)
    · have nb : b ≠ dx := ne_of_none e n1'
      have na' : b ≠ a := ne_of_none e na
      rw [upd_ne nb, del_ne na', upd_ne nb, upd_ne nb, upd_ne na', upd_ne nb, upd_ne na']
      exact e
    · rw [List.mem_singleton.mp hp, L2.lookup_put, if_pos rfl]
/-- what is asked of TooMany(i) -/
structure RaiserM (P : Program) (w : World) (K : PySem.W.Frag) (mg : Str → Option Value) (base : Heap) (C : Addr) : Prop where
  rc : RefC K C
  nA : PySem.W.findIn K (.ref C) "most" = some none
  gl : mg "TooMany" = some (.ref C)
  make : ∃ (f : Addr) (fd : FuncData), FnOk P w K mg base CX0 2 f fd ["self", "most"] (spInitM K) ∧ Binds K fd ["self", "most"] [] ∧ PySem.W.findIn K (.ref C) "__init__" = some (some (.ref f)) ∧ PySem.W.typeIn K (.ref f) = some (.type "function")
section
variable {P : Program} {w : World} {K : PySem.W.Frag} {mg : Str → Option Value} {base : Heap}
abbrev nMany : List Str := ["self", "length", "counts", "step", "outs", "arrow"]
theorem scMany : FnScope nMany ["self", "length"] (defScope sMany) := ⟨rfl, rfl, rfl, by decide +kernel, rfl, by decide +kernel, by decide +kernel⟩
theorem ok_manyR {f C CB : Addr} {fd : FuncData} {t6 : Tok} (F : Fun K "many" "Web.many" sMany f fd) (T : WebC K C) (R : Raiser P w K mg base "BadWindow" "BadWindow" CB)
    (m6 : mg "MOST_LENGTH" = some (.int 60 t6)) (mRange : mg "range" = none) (mSum : mg "sum" = none) : FnOk P w K mg base (CN P w) 4 f fd ["self", "length"] (spManyR C CB) := by
  refine okN F scMany (fun vs H Q E h => ?_) (fun cdv A outer s H vs Q E room h => ?_)
  · obtain ⟨x, n, ps, i, rfl, _⟩ := h
    rfl
  · obtain ⟨x, n, ps, k0, rfl, W, hb, hn, hlen, good, bad⟩ := h
    obtain ⟨fR, fdR, GR, bR, iC, tI⟩ := R.make
    refine ⟨_, (pss_cons (ps_if (pt_not (pt_chain op_le op_le pe_int (pv 1) (pe_glob (v := .int 60) rfl m6 ⟨_, rfl⟩))) (pss_one (L2N.ps_raise rfl takesN (pmk_0 R.rc.ox iC tI GR room bR pass0 (by rfl) R.gl))) pss_nil)
      (pss_cons (ps_set (i := 2) scMany.nd rfl (Or.inr rfl) (pe_op op_rep (pe_lst (pa_cons pe_int pa_nil)) (pe_fld (pv 0) rfl)))
      (pss_cons (ps_for PassesOwn.leaving rfl (pi_range1 (by rfl) mRange (pa_cons (pv 1) pa_nil)) (pg_name (i := 3) scMany.nd rfl (Or.inl rfl))
        (pss_one (ps_set (i := 2) scMany.nd rfl (Or.inr rfl) (pe_lc (own := [("outs", 4)]) (g := gName 4) (tt := tYes) rfl scMany.nd (pi_tup (pe_fld (pv 0) rfl)) (blkOk_by (own := [("outs", 4)]) (N := nMany) (sc := defScope sMany) (by decide +kernel)) (fun _ _ _ _ _ => pg_name (i := 4) scMany.nd rfl (Or.inl rfl)) (fun _ _ _ _ _ => pts_nil)
          (fun _ _ _ _ _ => pe_callB (cr_sumK (K := K) rfl rfl) (by rfl) mSum (by decide +kernel) (pa_cons
            (pe_lc (own := [("arrow", 5)]) (g := gName 5) (tt := tYes) rfl scMany.nd (pi_tupK (K := K) rfl (pv 4)) (blkOk_by (own := [("arrow", 5)]) (N := nMany) (by rfl)) (fun _ _ _ _ _ => pg_name (i := 5) scMany.nd rfl (Or.inl rfl)) (fun _ _ _ _ _ => pts_nil)
              (fun _ _ _ _ _ => pe_ix (ix_listK (K := K) rfl) (pv 2) (pe_ix (ix_tupK (K := K) rfl) (pe_ix (ix_tupK (K := K) rfl) (pe_fldK (K := K) rfl (pv 0) rfl) (pv 5) (fun _ _ => rfl)) pe_int (fun _ _ => rfl)) (fun _ _ => rfl))) pa_nil))))))
      (pss_one (ps_ret (pe_callB (cr_sum rfl) (by rfl) mSum (by decide +kernel) (pa_cons (pv 2) pa_nil))))))), ?_⟩
    by_cases g1 : (0 : Int) ≤ k0
    case neg => exact ⟨_, rfl, _, _, rfl, rfl, false, congrArg V.bl (decide_eq_false g1), iteF ⟨false, rfl, iteT (raise0 R.rc (bad fun z => g1 z.1))⟩⟩
    by_cases g2 : k0 ≤ (60 : Int)
    case neg => exact ⟨_, rfl, _, _, rfl, rfl, true, congrArg V.bl (decide_eq_true g1), iteT ⟨_, _, rfl, rfl, false, congrArg V.bl (decide_eq_false g2), iteT (raise0 R.rc (bad fun z => g2 z.2))⟩⟩
    obtain ⟨k, rfl⟩ := Int.eq_ofNat_of_zero_le g1
    obtain ⟨dx, q, lv, en, as, ls, es, hx, hq, hP, hlv, hR, hen, hR2⟩ := id W
    refine ⟨_, rfl, _, _, rfl, rfl, true, congrArg V.bl (decide_eq_true g1), iteT ⟨_, _, rfl, rfl, true, congrArg V.bl (decide_eq_true g2), iteF ?_⟩⟩
    have hll : ls.length = n := (Paired.length hR).trans (gat_len _ _)
    refine ⟨by show 1 ≤ sizeLine; decide, fun L1 h1 => ?_⟩
    have s1 : Same H (upd H L1 (.lst [.int 1])) := same_new (Same.refl H) h1
    refine ⟨_, rfl, x, C, dx, _, _, rfl, s1 _ _ hx, T.cl, T.nT, wf_total _ _ _ _, L1, _, _, rfl, rfl, upd_same, by omega, by omega, by rw [sizeLine_eq]; simp only [List.length_cons, List.length_nil]; omega, fun p hp => ?_⟩
    have s2 : Same H (upd (upd H L1 (.lst [.int 1])) p (.lst (List.replicate ((n : Int)).toNat [V.int 1]).flatten)) := same_new s1 (by
      by_cases z : p = L1
      · rw [z, upd_same] at hp
        cases hp
      · exact hp)
    have h2 : upd (upd H L1 (.lst [.int 1])) p (.lst (List.replicate ((n : Int)).toNat [V.int 1]).flatten) p = some (.lst (nums (cntL n ps 0))) := by
      rw [upd_same]
      exact congrArg (fun l => some (HO.lst l)) (rep_nums n 1)
    generalize upd (upd H L1 (.lst [.int 1])) p (.lst (List.replicate ((n : Int)).toNat [V.int 1]).flatten) = H2 at s2 h2
    refine ⟨_, rfl, _, rfl, by omega, by omega, for_range (lo := 0) (n := k) (fun i σ H' => ∃ (v3 : Option V) (L : Addr), σ = [some (.ref x), some (.int k), some (.ref L), v3, none, none] ∧ H' L = some (.lst (nums (cntL n ps i))) ∧ Same H H')
      ⟨none, p, rfl, h2, s2⟩ ?_ ?_⟩
    · rintro i σ H3 hi ⟨v3, L, rfl, hL, s3⟩
      refine ⟨_, rfl, x, C, dx, _, _, rfl, s3 _ _ hx, T.cl, T.nL, wf_leaving _ _ _ _, lv, rfl, ⟨_, SqT.of (s3 _ _ hlv)⟩, fun D hD => ?_⟩
      refine lc_tup (K := K) (a := lv) (xs := ls) (fun r H' => H' D = some (.lst (nums ((List.range r).map fun r => sm (idxs (ps.map (·.1)) r 0) fun a => (cntL n ps i).getD (ps.getD a (0, 0)).2 0))) ∧ Same H3 H')
        ⟨upd_same, same_new (Same.refl H3) hD⟩ (fun r H' _ ⟨_, s'⟩ => SqT.of (s' _ _ (s3 _ _ hlv))) ?_ ?_
      · rintro r y H4 hy ⟨hD4, s4⟩
        have hrn : r < n := by
          have z := (List.getElem?_eq_some_iff.mp hy).1
          omega
        obtain ⟨c, hc, hcp⟩ := row_at hR (gat_at (ps.map (·.1)) hrn)
        rw [hy] at hc
        obtain rfl := Option.some.inj hc
        have c4 := (s3.trans s4) _ _ hcp
        refine ⟨rfl, _, rfl, c, rfl, ⟨_, SqT.of c4⟩, fun D2 hD2 => ?_⟩
        refine lc_tup (K := K) (a := c) (xs := nums (idxs (ps.map (·.1)) r 0)) (fun j H' => H' D2 = some (.lst (nums (((idxs (ps.map (·.1)) r 0).take j).map fun a => (cntL n ps i).getD (ps.getD a (0, 0)).2 0))) ∧ Same H4 H')
          ⟨upd_same, same_new (Same.refl H4) hD2⟩ (fun j H' _ ⟨_, s'⟩ => SqT.of (s' _ _ c4)) ?_ ?_
        · rintro j y H6 hy ⟨hD6, s6⟩
          obtain ⟨a, ha, rfl⟩ := nums_get hy
          have hal : a < ps.length := by
            have z := (idxs_lt _ _ _ _ (List.mem_of_getElem? ha)).2
            rw [List.length_map] at z
            omega
          have hp' : ps[a]? = some ps[a] := List.getElem?_eq_getElem hal
          obtain ⟨c2, hc2, hcp2⟩ := pair_at hP hp'
          have t6 : Same H H6 := (s3.trans s4).trans s6
          have eg : ps.getD a (0, 0) = ps[a] := by rw [List.getD_eq_getElem?_getD, hp']; rfl
          have hlt : ps[a].2 < (cntL n ps i).length := by rw [cntL_len]; exact (hb _ (List.getElem_mem hal)).2
          have hv : (nums (cntL n ps i))[ps[a].2]? = some (.int (((cntL n ps i).getD (ps.getD a (0, 0)).2 0 : Nat) : Int)) := nums_at (by
            rw [eg, List.getD_eq_getElem?_getD, List.getElem?_eq_getElem hlt]
            rfl)
          refine ⟨rfl, _, rfl, _, rfl, x, C, dx, _, _, rfl, t6 _ _ hx, T.cl, T.nP, wf_pairs _ _ _ _, _, rfl, q, _, _, _, rfl, rfl, ((Same.kp t6).f hq).sq, atI_nat hc2, c2, _, _, _, rfl, rfl, SqT.of (t6 _ _ hcp2), rfl, L, _, _, _, rfl, rfl, SqL.of ((s4.trans s6) _ _ hL), atI_nat hv, _, hD6, ?_, ?_, same_put s6 hD2⟩
          · rw [sizeLine_eq]
            unfold nums
            rw [List.length_map, List.length_map]
            have z1 := List.length_take_le' j (idxs (ps.map (·.1)) r 0)
            have z2 := idxs_len r (ps.map (·.1)) 0
            rw [List.length_map] at z2
            omega
          · rw [upd_same, take_snoc ha, List.map_append]
            exact congrArg (fun l => some (HO.lst l)) (nums_snoc _ _).symm
        · rintro H6 ⟨hD6, s6⟩
          have el : (nums (idxs (ps.map (·.1)) r 0)).length = (idxs (ps.map (·.1)) r 0).length := by unfold nums; rw [List.length_map]
          rw [el, List.take_length, numsI] at hD6
          refine ⟨D2, _, rfl, SqL.of hD6, ?_⟩
          rw [nums_sum, sm_id]
          refine ⟨_, s6 _ _ hD4, ?_, ?_, same_put (s4.trans s6) hD⟩
          · rw [sizeLine_eq]
            unfold nums
            rw [List.length_map, List.length_map, List.length_range]
            omega
          · rw [upd_same, List.range_succ, List.map_append]
            exact congrArg (fun l => some (HO.lst l)) (nums_snoc _ _).symm
      · rintro H4 ⟨hD4, s4⟩
        rw [hll] at hD4
        exact ⟨_, D, rfl, hD4, s3.trans s4⟩
    · rintro σ H3 ⟨v3, L, rfl, hL, s3⟩
      rw [numsI] at hL
      refine ⟨_, rfl, L, _, rfl, SqL.of hL, ?_⟩
      rw [sumI]
      exact good k rfl (by omega) H3 s3
theorem scAfter : FnScope ["self", "arrow"] ["self", "arrow"] (defScope sAfter) := ⟨rfl, rfl, rfl, by decide +kernel, rfl, by decide +kernel, by decide +kernel⟩
theorem ok_after {f C : Addr} {fd : FuncData} (F : Fun K "after" "Web.after" sAfter f fd) (T : WebC K C) : FnOk P w K mg base CX0 1 f fd ["self", "arrow"] (spAfter C) := by
  refine F.ok scAfter (fun vs H Q E h => ?_) (fun cdv A outer s H vs Q E hr h => ?_)
  · obtain ⟨x, n, ps, a, rfl, _⟩ := h
    rfl
  · obtain ⟨x, n, ps, a, rfl, W, hb, ha, k⟩ := h
    obtain ⟨dx, q, lv, en, as, ls, es, hx, hq, hP, hlv, hR, hen, hR2⟩ := id W
    have hp : ps[a]? = some ps[a] := List.getElem?_eq_getElem ha
    obtain ⟨c2, hc2, hcp2⟩ := pair_at hP hp
    obtain ⟨c, hc, hcp⟩ := row_at hR (gat_at (ps.map (·.1)) (hb _ (List.getElem_mem ha)).2)
    rw [← onOf_at hp] at hcp
    refine ⟨_, (pss_one (ps_ret (pe_ix ix_tup (pe_fld (pv 0) rfl) (pe_ix ix_tup (pe_ix ix_tup (pe_fld (pv 0) rfl) (pv 1) (fun _ _ => rfl)) pe_int (fun _ _ => rfl)) (fun _ _ => rfl)))), ?_⟩
    exact ⟨_, rfl, x, C, dx, _, _, rfl, hx, T.cl, T.nL, wf_leaving _ _ _ _, _, rfl, x, C, dx, _, _, rfl, hx, T.cl, T.nP, wf_pairs _ _ _ _, _, rfl, q, _, _, _, rfl, rfl, hq.sq, atI_nat hc2, c2, _, _, _, rfl, rfl, SqT.of hcp2, rfl, lv, _, _, _, rfl, rfl, SqT.of hlv, atI_nat hc, k c hcp⟩
abbrev nWRows : List Str := ["self", "length", "found", "step", "arrow", "row"]
theorem scWRows : FnScope nWRows ["self", "length"] (defScope sWRows) := ⟨rfl, rfl, rfl, by decide +kernel, rfl, by decide +kernel, by decide +kernel⟩
theorem ok_rowsR {f fM fA C CB CT : Addr} {fd fdM fdA : FuncData} {t6 t7 : Tok} (F : Fun K "rows" "Web.rows" sWRows f fd) (T : WebC K C) (R : Raiser P w K mg base "BadWindow" "BadWindow" CB) (RM : RaiserM P w K mg base CT)
    (GM : FnOk P w K mg base (CN P w) 4 fM fdM ["self", "length"] (spManyR C CB)) (bM : Binds K fdM ["self", "length"] []) (mM : Meth K C "many" fM) (GA : FnOk P w K mg base CX0 1 fA fdA ["self", "arrow"] (spAfter C)) (bA : Binds K fdA ["self", "arrow"] []) (mA : Meth K C "after" fA)
    (m6 : mg "MOST_WINDOW" = some (.int 6 t6)) (m7 : mg "MOST_ROWS" = some (.int 600 t7)) (mRange : mg "range" = none) (mLen : mg "len" = none) : FnOk P w K mg base (CN P w) 5 f fd ["self", "length"] (spRowsR C CB CT) := by
  refine okN F scWRows (fun vs H Q E h => ?_) (fun cdv A outer s H vs Q E room h => ?_)
  · obtain ⟨x, n, ps, i, rfl, _⟩ := h
    rfl
  · obtain ⟨x, n, ps, k0, rfl, W, hG, hn, hlen, good, many, bad⟩ := h
    obtain ⟨fR, fdR, GR, bR, iC, tI⟩ := R.make
    obtain ⟨fT, fdT, GT, bT, iT, tT⟩ := RM.make
    have hr1 : Room 1 _ := room.mono (by decide)
    have hr3 : Room 3 _ := room.mono (by decide)
    refine ⟨_, (pss_cons (ps_if (pt_not (pt_chain op_le op_le pe_int (pv 1) (pe_glob (v := .int 6) rfl m6 ⟨_, rfl⟩))) (pss_one (L2N.ps_raise rfl takesN (pmk_0 R.rc.ox iC tI GR hr3 bR pass0 (by rfl) R.gl))) pss_nil)
      (pss_cons (ps_if (pt_cmpR op_gt (pe_meth (pv 0) T.cl mM GM room bM .nil passN (pa_cons (pv 1) pa_nil)) (pe_glob (v := .int 600) rfl m7 ⟨_, rfl⟩) (nomark _)) (pss_one (L2N.ps_raise rfl takesN (pmk_a RM.rc.ox iT tT GT hr3 bT pass0 (by rfl) RM.gl (pa_cons (pe_glob (v := .int 600) rfl m7 ⟨_, rfl⟩) pa_nil)))) pss_nil)
      (pss_cons (ps_setLc (i := 2) (own := [("arrow", 4)]) (g := gName 4) (tt := tYes) rfl scWRows.nd rfl rfl (sw_true rfl rfl rfl (by decide +kernel)) (pi_range1 (by rfl) mRange (pa_cons (pe_callB call_len_seq (by rfl) mLen PySem.boot_len (pa_cons (pe_fld (pv 0) rfl) pa_nil)) pa_nil))
          (blkOk_by (own := [("arrow", 4)]) (N := nWRows) (sc := defScope sWRows) (by decide +kernel)) (fun _ _ _ _ _ => pg_name (i := 4) scWRows.nd rfl (Or.inl rfl)) (fun _ _ _ _ _ => pts_nil) (fun _ _ _ _ _ => pe_tup (pa_cons (pv 4) pa_nil)))
      (pss_cons (ps_for PassesOwn.leaving rfl (pi_range1 (by rfl) mRange (pa_cons (pe_op op_sub (pv 1) pe_int) pa_nil)) (pg_name (i := 3) scWRows.nd rfl (Or.inl rfl))
        (pss_one (ps_setLc2 (i := 2) (own := [("row", 5), ("arrow", 4)]) (vs1 := [4]) (g := gName 5) (tt := tYes) (g1 := gName 4) (tt1 := tYes) rfl scWRows.nd rfl rfl (sw_true rfl rfl rfl (by decide +kernel)) (pi_list (pv 2)) (blkOk_by (own := [("row", 5), ("arrow", 4)]) (N := nWRows) (sc := defScope sWRows) (by decide +kernel)) (by decide)
          (fun _ _ _ _ _ => pg_name (i := 5) scWRows.nd rfl (Or.inl rfl)) (fun _ _ _ _ _ => pts_nil)
          (fun _ _ _ _ _ => pi_tupK (K := K) rfl (pe_meth (pv 0) T.cl mA GA hr1 bA .nil pass0 (pa_cons (pe_ix (ix_tupK (K := K) rfl) (pv 5) (pe_un un_neg pe_int) (fun _ _ => rfl)) pa_nil))) (fun _ _ _ _ _ => pg_name (i := 4) scWRows.nd rfl (Or.inl rfl)) (fun _ _ _ _ _ => pts_nil)
          (fun _ _ _ _ _ => pe_op (op_catTK (K := K) rfl) (pv 5) (pe_tup (pa_cons (pv 4) pa_nil))))))
      (pss_one (ps_ret (pv 2))))))), ?_⟩
    by_cases g1 : (1 : Int) ≤ k0
    case neg => exact ⟨_, rfl, _, _, rfl, rfl, false, congrArg V.bl (decide_eq_false g1), iteF ⟨false, rfl, iteT (raise0 R.rc (bad fun z => g1 z.1))⟩⟩
    by_cases g2 : k0 ≤ (6 : Int)
    case neg => exact ⟨_, rfl, _, _, rfl, rfl, true, congrArg V.bl (decide_eq_true g1), iteT ⟨_, _, rfl, rfl, false, congrArg V.bl (decide_eq_false g2), iteT (raise0 R.rc (bad fun z => g2 z.2))⟩⟩
    obtain ⟨k, rfl⟩ : ∃ k : Nat, k0 = ((k + 1 : Nat) : Int) := ⟨(k0 - 1).toNat, by omega⟩
    refine ⟨_, rfl, _, _, rfl, rfl, true, congrArg V.bl (decide_eq_true g1), iteT ⟨_, _, rfl, rfl, true, congrArg V.bl (decide_eq_true g2), iteF ?_⟩⟩
    have hk : k + 1 ≤ 6 := by omega
    have webs : ∀ {H' : Hp}, Same H H' → WebAt C H' x n ps := fun s' => W.to (Same.kp s') (by obtain ⟨dx, _, _, _, _, _, _, hx, _⟩ := id W; rw [hx]; exact s' _ _ hx)
    obtain ⟨dx, q, lv, en, as, ls, es, hx, hq, hP, _⟩ := id W
    have hal : as.length = ps.length := Paired.length hP
    refine ⟨_, rfl, x, dx, _, rfl, hx, wf_meth _ _ _ _ (by decide +kernel), _, rfl, x, n, ps, _, rfl, W, hG.2.1, hn, hlen, fun k' ek h2 H1 s1 => ?_, fun z => absurd ⟨by omega, by omega⟩ z⟩
    obtain rfl : k' = k + 1 := by omega
    rw [cnt_rows hG.2.1]
    refine ⟨_, _, rfl, rfl, ?_⟩
    by_cases hm : (600 : Int) < (((rowsF ps k).length : Nat) : Int)
    · exact ⟨true, congrArg V.bl (decide_eq_true hm), iteT (raiseM RM.rc RM.nA (Or.inr rfl) ((many k rfl hk (by omega)).same s1))⟩
    refine ⟨false, congrArg V.bl (decide_eq_false hm), iteF ?_⟩
    have few : ∀ j, j ≤ k → (rowsF ps j).length ≤ 600 := fun j hj => Nat.le_trans (rowsF_under hG hj) (by omega)
    -- the arrows
    refine ⟨_, rfl, x, C, dx, _, _, rfl, s1 _ _ hx, T.cl, T.nP, wf_pairs _ _ _ _, q, _, rfl, .inr ((Same.kp s1).f hq).sq, _, rfl, by omega, by omega, fun D hD => ?_⟩
    refine lc_range (lo := 0) (n := as.length) (fun i H' => ∃ vs : List V, H' D = some (.lst vs) ∧ RowsIn H' vs ((List.range i).map fun a => [a]) ∧ Same H1 H')
      ⟨[], upd_same, .nil, same_new (Same.refl H1) hD⟩ ?_ ?_
    · rintro i H2 hi ⟨vs, hD2, hR2, s2⟩
      refine ⟨rfl, _, rfl, by show 1 ≤ sizeLine; decide, fun U hU => ?_⟩
      have nDU : D ≠ U := ne_of_none hD2 hU
      have hD3 : upd H2 U (.tup [.int (0 + (i : Nat))]) D = some (.lst vs) := by rw [upd_ne nDU]; exact hD2
      have hvl : vs.length = i := by
        have z := Paired.length hR2
        rw [List.length_map, List.length_range] at z
        exact z
      refine ⟨vs, hD3, by rw [sizeLine_eq]; omega, vs ++ [.ref U], upd_same, ?_, same_put (same_new s2 hU) hD⟩
      rw [List.range_succ, List.map_append]
      refine paired_snoc (RowsIn.kp ((Kp.new hU).trans (Kp.put hD3)) hR2) ⟨U, rfl, ?_⟩
      rw [upd_ne nDU.symm, upd_same]
      show some (HO.tup [.int (0 + (i : Int))]) = some (HO.tup [.int (i : Int)])
      rw [Int.zero_add]
    rintro H2 ⟨vs1, hD2, hR2, s2⟩
    rw [hal] at hR2
    refine ⟨_, rfl, _, _, rfl, rfl, ?_⟩
    dsimp only
    rw [show ((k + 1 : Nat) : Int) - 1 = (k : Int) by omega]
    refine ⟨_, rfl, by omega, by omega, for_range (lo := 0) (n := k) (D := { nx := tRet (tVar 2) { nx := fun _ H' => Q .non H', rt := Q }, rt := Q }) (fun i σ H' => ∃ (v3 : Option V) (L : Addr) (vs : List V), σ = [some (.ref x), some (.int ((k + 1 : Nat) : Int)), some (.ref L), v3, none, none] ∧ H L = none ∧ H' L = some (.lst vs) ∧ RowsIn H' vs (rowsF ps i) ∧ Same H H')
      ⟨none, D, vs1, rfl, s1.free hD, hD2, hR2, s1.trans s2⟩ ?_ ?_⟩
    · rintro i σ H3 hi ⟨v3, L, vs, rfl, nL, hL, hR, s3⟩
      have big := few (i + 1) (by omega)
      have hvl : vs.length = (rowsF ps i).length := Paired.length hR
      refine ⟨_, rfl, L, rfl, ⟨_, SqL.of hL⟩, fun M hM => loop_list (K := K) (a := L) (xs := vs) (fun j H' => ∃ us : List V, H' M = some (.lst us) ∧ RowsIn H' us (((rowsF ps i).take j).flatMap fun r => (onOf ps (r.getLastD 0)).map fun a => r ++ [a]) ∧ Same H3 H')
        ⟨[], upd_same, .nil, same_new (Same.refl H3) hM⟩ (fun j H' _ ⟨_, _, _, s'⟩ => SqL.of (s' _ _ hL)) ?_ ?_⟩
      · rintro j y H4 hy ⟨us, hM4, hU4, s4⟩
        obtain ⟨r, hr', ⟨c, rfl, hc⟩⟩ := paired_at hR hy
        have hrm := List.mem_of_getElem? hr'
        have hrn := rowsF_ne hrm
        have hrl := rowsF_len hrm
        have t4 : Same H H4 := s3.trans s4
        have total : (((rowsF ps i).take j).flatMap fun r => (onOf ps (r.getLastD 0)).map fun a => r ++ [a]).length + (onOf ps (r.getLastD 0)).length ≤ 600 := by
          have y := flat_take (fun r => (onOf ps (r.getLastD 0)).map fun a => r ++ [a]) (rowsF ps i) (j + 1)
          have z : ((rowsF ps i).flatMap fun r => (onOf ps (r.getLastD 0)).map fun a => r ++ [a]).length ≤ 600 := big
          rw [take_snoc hr', List.flatMap_append, List.flatMap_singleton, List.length_append, List.length_map] at y
          omega
        refine ⟨rfl, _, rfl, x, dx, _, rfl, t4 _ _ hx, wf_meth _ _ _ _ (by decide +kernel), _, rfl, _, rfl, c, _, _, _, rfl, rfl, SqT.of (s4 _ _ hc), at_last hrn, x, n, ps, r.getLastD 0, rfl, webs t4, hG.2.1, rowsF_lt hrm _ (last_mem hrn), fun c2 hc2 => ⟨c2, rfl, ⟨_, SqT.of hc2⟩, ?_⟩⟩
        refine loop_tup (K := K) (a := c2) (xs := nums (onOf ps (r.getLastD 0))) (fun m H' => ∃ zs : List V, H' M = some (.lst zs) ∧ RowsIn H' zs ((((rowsF ps i).take j).flatMap fun r => (onOf ps (r.getLastD 0)).map fun a => r ++ [a]) ++ ((onOf ps (r.getLastD 0)).take m).map fun a => r ++ [a]) ∧ Same H3 H' ∧ H' c2 = some (.tup (nums (onOf ps (r.getLastD 0)))))
          ⟨us, hM4, by rw [List.take_zero, List.map_nil, List.append_nil]; exact hU4, s4, hc2⟩ (fun m H' _ ⟨_, _, _, _, h'⟩ => SqT.of h') ?_ ?_
        · rintro m y H5 hy ⟨zs, hM5, hZ5, s5, hc5⟩
          obtain ⟨a, ha, rfl⟩ := nums_get hy
          have hcr := s5 _ _ hc
          refine ⟨rfl, _, rfl, _, rfl, by show 1 ≤ sizeLine; decide, fun U hU => ?_⟩
          have e6 : Same H5 (upd H5 U (.tup [.int (a : Int)])) := same_new (Same.refl H5) hU
          have ln : (nums r).length = r.length := by unfold nums; rw [List.length_map]
          refine ⟨c, U, _, _, rfl, rfl, SqT.of (e6 _ _ hcr), SqT.of upd_same, ?_, ?_, fun z => ?_, fun _ p hp => ?_⟩
          · intro z
            rw [z] at ln
            simp at ln
            omega
          · rw [sizeLine_eq, ln]
            show r.length + 1 ≤ _
            omega
          · cases z
          have e7 : Same H5 (upd (upd H5 U (.tup [.int (a : Int)])) p (.tup (nums r ++ [.int (a : Int)]))) := e6.trans (same_new (Same.refl _) hp)
          have hzl : zs.length ≤ 600 := by
            have z := Paired.length hZ5
            rw [List.length_append, List.length_map] at z
            have z1 := List.length_take_le' m (onOf ps (r.getLastD 0))
            omega
          have hM7 := e7 _ _ hM5
          refine ⟨zs, hM7, by rw [sizeLine_eq]; omega, zs ++ [.ref p], upd_same, ?_, same_put (s5.trans e7) hM, ?_⟩
          · rw [take_snoc ha, List.map_append, ← List.append_assoc]
            refine paired_snoc (RowsIn.kp ((Same.kp e7).trans (Kp.put hM7)) hZ5) ⟨p, rfl, ?_⟩
            rw [upd_ne (ne_of (show upd (upd H5 U (.tup [.int (a : Int)])) p (.tup (nums r ++ [.int (a : Int)])) p = _ from upd_same) hM7 (by intro z; cases z)), upd_same, nums_snoc]
          · rw [upd_ne (ne_of (e7 _ _ hc5) hM7 (by intro z; cases z))]
            exact e7 _ _ hc5
        · rintro H5 ⟨zs, hM5, hZ5, s5, _⟩
          have el : (nums (onOf ps (r.getLastD 0))).length = (onOf ps (r.getLastD 0)).length := by unfold nums; rw [List.length_map]
          rw [el, List.take_length] at hZ5
          refine ⟨zs, hM5, ?_, s5⟩
          rw [take_snoc hr', List.flatMap_append, List.flatMap_singleton]
          exact hZ5
      · rintro H4 ⟨us, hM4, hU4, s4⟩
        rw [hvl, List.take_length] at hU4
        exact ⟨_, M, us, rfl, s3.free hM, hM4, hU4, s3.trans s4⟩
    · rintro σ H3 ⟨v3, L, vs, rfl, nL, hL, hR, s3⟩
      exact ⟨_, rfl, good k rfl hk (few k (Nat.le_refl k)) H3 L vs s3 nL hL hR⟩
end
end KW


set_option Elab.async false
set_option maxRecDepth 100000
set_option maxHeartbeats 2000000
/-! The law's own: a walk that comes round. -/
namespace KW
open PySem PySem.Spec PyProof.Rows L2
abbrev sLWalk : Stmt := topS 57
abbrev nLWalk : List Str := ["_law_bag_here", "_law_w", "_law_arrow", "_law_row", "_law_k", "_law_begins", "_law_at", "_law_one", "_law_room"]
theorem scLWalk : FnScope nLWalk ["_law_bag_here", "_law_w"] (defScope sLWalk) := ⟨rfl, rfl, rfl, by decide +kernel, rfl, by decide +kernel, by decide +kernel⟩
/-- arrows that follow one another -/
def chain (ps : List (Nat × Nat)) : List Nat → Prop
  | [] => True
  | [a] => a < ps.length
  | a :: b :: r => a < ps.length ∧ (ps.getD a (0, 0)).2 = (ps.getD b (0, 0)).1 ∧ chain ps (b :: r)
theorem idxs_mem (r : Nat) : ∀ (l : List Nat) (k a : Nat), a ∈ idxs l r k → ∃ i, a = k + i ∧ l[i]? = some r
  | [], _, _, h => absurd h (by simp [idxs])
  | p :: l, k, a, h => by
    unfold idxs at h
    have go : a ∈ idxs l r (k + 1) → ∃ i, a = k + i ∧ (p :: l)[i]? = some r := fun h => by
      obtain ⟨i, e, q⟩ := idxs_mem r l (k + 1) a h
      exact ⟨i + 1, by omega, by simpa using q⟩
    split at h
    · rename_i e
      rcases List.mem_cons.mp h with z | z
      · exact ⟨0, by omega, by rw [e]; rfl⟩
      · exact go z
    · exact go h
theorem on_mem {ps : List (Nat × Nat)} {x a : Nat} (h : a ∈ onOf ps x) : a < ps.length ∧ (ps.getD a (0, 0)).1 = (ps.getD x (0, 0)).2 := by
  obtain ⟨i, e, q⟩ := idxs_mem _ _ _ _ h
  have e' : a = i := by omega
  subst e'
  rw [List.getElem?_map] at q
  cases z : ps[a]? with
  | none =>
    rw [z] at q
    cases q
  | some p =>
    rw [z] at q
    refine ⟨(List.getElem?_eq_some_iff.mp z).1, ?_⟩
    rw [List.getD_eq_getElem?_getD, z]
    exact Option.some.inj q
theorem on_ne {n : Nat} {ps : List (Nat × Nat)} (g : Good n ps) {x : Nat} (hx : x < ps.length) : onOf ps x ≠ [] := fun z => by
  have hp : ps.getD x (0, 0) = ps[x] := by rw [List.getD_eq_getElem?_getD, List.getElem?_eq_getElem hx]; rfl
  obtain ⟨p, h1, h2⟩ := g.2.2 (ps.getD x (0, 0)).2 (by rw [hp]; exact (g.2.1 _ (List.getElem_mem hx)).2)
  exact idxs_none _ _ _ z (List.mem_map.mpr ⟨p, h1, h2⟩)
theorem chain_snoc {ps : List (Nat × Nat)} {a : Nat} (ha : a < ps.length) : ∀ {r : List Nat}, r ≠ [] → chain ps r → end_ ps r = (ps.getD a (0, 0)).1 → chain ps (r ++ [a])
  | [], h, _, _ => absurd rfl h
  | [x], _, h, e => ⟨h, e, ha⟩
  | x :: y :: r, _, h, e => ⟨h.1, h.2.1, chain_snoc (r := y :: r) ha (List.cons_ne_nil _ _) h.2.2 e⟩
theorem chain_lt {ps : List (Nat × Nat)} : ∀ {r : List Nat}, chain ps r → ∀ a ∈ r, a < ps.length
  | [], _, a, h => absurd h (by simp)
  | [x], h, a, m => by
    rw [List.mem_singleton.mp m]
    exact h
  | x :: y :: r, h, a, m => by
    rcases List.mem_cons.mp m with z | z
    · rw [z]
      exact h.1
    · exact chain_lt h.2.2 a z
/-- the rooms where the arrows of a row begin -/
def bgs (ps : List (Nat × Nat)) (r : List Nat) : List Nat := r.map fun a => (ps.getD a (0, 0)).1
/-- the rooms that are not among them -/
def fresh_ (n : Nat) (ps : List (Nat × Nat)) (r : List Nat) : Nat := ((List.range n).filter fun x => decide (x ∉ bgs ps r)).length
theorem filter_lt {α : Type} {p q : α → Bool} (h : ∀ x, q x = true → p x = true) {y : α} (hp : p y = true) (hq : q y = false) : ∀ {xs : List α}, y ∈ xs → (xs.filter q).length < (xs.filter p).length
  | [], m => absurd m (by simp)
  | x :: xs, m => by
    have le : (xs.filter q).length ≤ (xs.filter p).length := by
      have : ∀ zs : List α, (zs.filter q).length ≤ (zs.filter p).length := by
        intro zs
        induction zs with
        | nil => exact Nat.le_refl _
        | cons z zs ih =>
          rw [List.filter_cons, List.filter_cons]
          cases hz : q z with
          | true => rw [if_pos rfl, if_pos (h z hz)]; simp; exact ih
          | false =>
            rw [if_neg (by decide)]
            split
            · rw [List.length_cons]
              omega
            · exact ih
      exact this xs
    rw [List.filter_cons, List.filter_cons]
    rcases List.mem_cons.mp m with e | m
    · rw [← e, hp, hq, if_pos rfl, if_neg (by decide), List.length_cons]
      omega
    · have ih := filter_lt h hp hq (xs := xs) m
      cases hz : q x with
      | true => rw [if_pos rfl, if_pos (h x hz)]; simp; exact ih
      | false =>
        rw [if_neg (by decide)]
        split
        · rw [List.length_cons]
          omega
        · exact ih
theorem fresh_less {n : Nat} {ps : List (Nat × Nat)} {r : List Nat} {a : Nat} (h1 : (ps.getD a (0, 0)).1 < n) (h2 : (ps.getD a (0, 0)).1 ∉ bgs ps r) : fresh_ n ps (r ++ [a]) < fresh_ n ps r := by
  unfold fresh_
  refine filter_lt (y := (ps.getD a (0, 0)).1) (fun x hx => ?_) (decide_eq_true h2) (decide_eq_false fun z => z ?_) (List.mem_range.mpr h1)
  · have z := of_decide_eq_true hx
    refine decide_eq_true fun y => z ?_
    unfold bgs at y ⊢
    rw [List.map_append]
    exact List.mem_append_left _ y
  · unfold bgs
    rw [List.map_append]
    exact List.mem_append_right _ List.mem_cons_self
theorem inN {r : Nat} {l : List Nat} : inV (.int (r : Int)) (nums l) = decide (r ∈ l) := by
  induction l with
  | nil => rfl
  | cons x l ih =>
    unfold inV nums at ih ⊢
    rw [List.map_cons, List.any_cons, ih]
    show (((x : Int) == (r : Int)) || decide (r ∈ l)) = _
    by_cases e : x = r
    · rw [e]
      simp
    · have e' : r ≠ x := fun z => e z.symm
      have e2 : ¬ ((x : Int) = (r : Int)) := fun z => e (by omega)
      simp [e2, e']
theorem flatN : ∀ l : List Nat, (nums l).all flatV = true
  | [] => rfl
  | x :: l => by
    unfold nums
    rw [List.map_cons, List.all_cons]
    exact flatN l
theorem last_of {l : List Nat} (h : l ≠ []) : l.getLastD 0 ∈ l := last_mem h
theorem cut_take (l : List Nat) {k : Nat} (h : k ≤ l.length) : cutV (nums l) none (some (k : Int)) = nums (l.take k) := by
  have ln : (nums l).length = l.length := by unfold nums; rw [List.length_map]
  unfold cutV
  have e1 : HT.sIx (nums l).length 0 none = 0 := rfl
  have e2 : HT.sIx (nums l).length (nums l).length (some (k : Int)) = k := by
    unfold HT.sIx
    simp only [ln]
    split
    · omega
    · omega
  rw [e1, e2]
  unfold nums
  rw [List.drop_zero, Nat.sub_zero, List.map_take]
theorem cut_drop (l : List Nat) {k : Nat} (h : k ≤ l.length) : cutV (nums l) (some (k : Int)) none = nums (l.drop k) := by
  have ln : (nums l).length = l.length := by unfold nums; rw [List.length_map]
  unfold cutV
  have e1 : HT.sIx (nums l).length (nums l).length none = l.length := by rw [ln]; rfl
  have e2 : HT.sIx (nums l).length 0 (some (k : Int)) = k := by
    unfold HT.sIx
    simp only [ln]
    split
    · omega
    · omega
  rw [e1, e2]
  unfold nums
  rw [← List.map_drop, List.take_of_length_le (by rw [List.length_map, List.length_drop]; omega)]
theorem drop_round {ps : List (Nat × Nat)} {r : List Nat} {k : Nat} (h : (bgs ps r)[k]? = some (end_ ps r)) : r.drop k ≠ [] ∧ end_ ps (r.drop k) = bgn ps (r.drop k) := by
  unfold bgs at h
  rw [List.getElem?_map] at h
  cases q : r[k]? with
  | none =>
    rw [q] at h
    cases h
  | some a =>
    rw [q] at h
    have hk : k < r.length := (List.getElem?_eq_some_iff.mp q).1
    have ha : (ps.getD a (0, 0)).1 = end_ ps r := Option.some.inj h
    have ed : r.drop k = a :: r.drop (k + 1) := by
      rw [List.drop_eq_getElem_cons hk]
      congr 1
      exact (List.getElem?_eq_some_iff.mp q).2
    refine ⟨by rw [ed]; exact List.cons_ne_nil _ _, ?_⟩
    have e1 : end_ ps (r.drop k) = end_ ps r := by
      unfold end_
      rw [List.getLastD_eq_getLast?, List.getLastD_eq_getLast?, List.getLast?_drop, if_neg (by omega)]
    rw [e1, ← ha, ed]
    rfl
def spLWalk : Sp := fun vs H Q _ => ∃ (b l : Addr) (ns : List Int) (t : Addr) (n : Nat) (ps : List (Nat × Nat)), vs = [.ref b, .ref t] ∧ BagAt b l ns H ∧ WebT H t n ps ∧ n ≤ 100 ∧ ps.length ≤ 400 ∧
  ∀ (H' : Hp) (u a1 a2 : Addr) (fr rg : List Nat), Grow b H H' → BagAt b l ns H' → H' u = some (.tup [.ref a1, .ref a2]) → H' a1 = some (.lst (nums fr)) → H' a2 = some (.lst (nums rg)) → rg ≠ [] → chain ps (fr ++ rg) → end_ ps rg = bgn ps rg → fr.length + rg.length ≤ n + 5 → Q (.ref u) H'
theorem bag_same {b l : Addr} {ms : List Int} {H H' : Hp} (s : Same H H') (B : BagAt b l ms H) : BagAt b l ms H' := by
  obtain ⟨⟨i, r, sd, c, h, hi⟩, hl, nbl⟩ := B
  exact ⟨⟨i, r, sd, c, s _ _ h, hi⟩, s _ _ hl, nbl⟩
section
variable {P : Program} {w : World} {K : PySem.W.Frag} {mg : Str → Option Value} {base : Heap}
theorem ok_lwalk {f fP fO fN : Addr} {fd fdP fdO fdN : FuncData} (F : Fun K "_law_walk" "_law_walk" sLWalk f fd) (GP : FnOk P w K mg base CX0 1 fP fdP ["_law_bag_here", "_law_many_here"] spPull) (bP : Binds K fdP ["_law_bag_here", "_law_many_here"] []) (mP : mg "_law_pull" = some (.ref fP)) (kP : PySem.W.keepIn K (.ref fP) = true)
    (GO : FnOk P w K mg base CX0 2 fO fdO ["_law_bag_here", "_law_some"] (spOf K)) (bO : Binds K fdO ["_law_bag_here", "_law_some"] []) (mO : mg "_law_of" = some (.ref fO)) (kO : PySem.W.keepIn K (.ref fO) = true)
    (GN : FnOk P w K mg base CX0 2 fN fdN ["_law_w", "_law_arrow"] spLOn) (bN : Binds K fdN ["_law_w", "_law_arrow"] []) (mN : mg "_law_on" = some (.ref fN)) (kN : PySem.W.keepIn K (.ref fN) = true)
    (mRange : mg "range" = none) (mLen : mg "len" = none) (mEnum : mg "enumerate" = none) : FnOk P w K mg base CX0 3 f fd ["_law_bag_here", "_law_w"] spLWalk := by
  refine F.ok scLWalk (fun vs H Q E h => ?_) (fun cdv A outer s H vs Q E hr h => ?_)
  · obtain ⟨b, l, ns, t, n, ps, rfl, _⟩ := h
    rfl
  · obtain ⟨b, l, ns, t, n, ps, rfl, B, W, hn, hlen, kk⟩ := h
    have hr1 : Room 1 _ := hr.mono (by decide)
    refine ⟨_, pss_cons (ps_set (i := 2) scLWalk.nd rfl (Or.inl rfl) (pe_call GP hr1 rfl mP kP bP .nil pass0 (pa_cons (pv 0) (pa_cons (pe_callB call_len_seq (by rfl) mLen PySem.boot_len (pa_cons (pe_ix ix_tup (pv 1) pe_int (fun _ _ => rfl)) pa_nil)) pa_nil))))
      (pss_cons (ps_set (i := 3) scLWalk.nd rfl (Or.inr rfl) (pe_lst (pa_cons (pv 2) pa_nil)))
      (C8.pss_cut (ps_for PassesOwn.never rfl (pi_range1 (by rfl) mRange (pa_cons (pe_call GP hr1 rfl mP kP bP .nil pass0 (pa_cons (pv 0) (pa_cons pe_int pa_nil))) pa_nil)) (pg_name (i := 4) scLWalk.nd rfl (Or.inl rfl))
          (pss_one (ps_expr (pe_bm PySem.F.plainAttrs_list PySem.F.slot_list_append PySem.F.type_list_append mt_append (pv 3) (pa_cons (pe_call GO hr rfl mO kO bO .nil pass0 (pa_cons (pv 0) (pa_cons (pe_call GN hr rfl mN kN bN .nil pass0 (pa_cons (pv 1) (pa_cons (pe_ix ix_list (pv 3) (pe_un un_neg pe_int) (fun _ _ => rfl)) pa_nil))) pa_nil))) pa_nil)))))
      (C8.pss_cut (ps_setLc (i := 5) (own := [("_law_one", 7)]) (g := gName 7) (tt := tYes) rfl scLWalk.nd rfl rfl (sw_true rfl rfl rfl (by decide +kernel)) (pi_list (pv 3)) (blkOk_by (own := [("_law_one", 7)]) (N := nLWalk) (sc := defScope sLWalk) (by decide +kernel)) (fun _ _ _ _ _ => pg_name (i := 7) scLWalk.nd rfl (Or.inl rfl)) (fun _ _ _ _ _ => pts_nil)
          (fun _ _ _ _ _ => pe_ix (ix_tupK (K := K) rfl) (pe_ix (ix_tupK (K := K) rfl) (pe_ix (ix_tupK (K := K) rfl) (pv 1) pe_int (fun _ _ => rfl)) (pv 7) (fun _ _ => rfl)) pe_int (fun _ _ => rfl)))
      (C8.pss_cut (ps_while PassesOwn.never (pt_cmpR op_notIn_seq (pe_ix ix_tup (pe_ix ix_tup (pe_ix ix_tup (pv 1) pe_int (fun _ _ => rfl)) (pe_ix ix_list (pv 3) (pe_un un_neg pe_int) (fun _ _ => rfl)) (fun _ _ => rfl)) pe_int (fun _ _ => rfl)) (pv 5) (by rfl))
          (pss_cons (ps_expr (pe_bm PySem.F.plainAttrs_list PySem.F.slot_list_append PySem.F.type_list_append mt_append (pv 3) (pa_cons (pe_call GO hr rfl mO kO bO .nil pass0 (pa_cons (pv 0) (pa_cons (pe_call GN hr rfl mN kN bN .nil pass0 (pa_cons (pv 1) (pa_cons (pe_ix ix_list (pv 3) (pe_un un_neg pe_int) (fun _ _ => rfl)) pa_nil))) pa_nil))) pa_nil)))
          (pss_one (ps_expr (pe_bm PySem.F.plainAttrs_list PySem.F.slot_list_append PySem.F.type_list_append mt_append (pv 5) (pa_cons (pe_ix ix_tup (pe_ix ix_tup (pe_ix ix_tup (pv 1) pe_int (fun _ _ => rfl)) (pe_ix ix_list (pv 3) (pe_un un_neg pe_int) (fun _ _ => rfl)) (fun _ _ => rfl)) pe_int (fun _ _ => rfl)) pa_nil))))))
      (pss_cons (ps_set (i := 6) scLWalk.nd rfl (Or.inl rfl) (pe_ix ix_list (pe_lc (own := [("_law_k", 4), ("_law_room", 8)]) (g := gTup K 2 (gCons (gName 4) (gCons (gName 8) gNil))) rfl scLWalk.nd (pi_enum (by rfl) mEnum (pa_cons (pv 5) pa_nil)) (blkOk_by (own := [("_law_k", 4), ("_law_room", 8)]) (N := nLWalk) (sc := defScope sLWalk) (by decide +kernel)) (fun _ _ _ _ _ => pg_tup rfl (pgs_cons (pg_name (i := 4) scLWalk.nd rfl (Or.inl rfl)) (pgs_cons (pg_name (i := 8) scLWalk.nd rfl (Or.inl rfl)) pgs_nil)))
          (fun _ _ _ _ _ => pts_one (pt_cmpR op_eq (pv 8) (pe_ix (ix_tupK (K := K) rfl) (pe_ix (ix_tupK (K := K) rfl) (pe_ix (ix_tupK (K := K) rfl) (pv 1) pe_int (fun _ _ => rfl)) (pe_ix (ix_listK (K := K) rfl) (pv 3) (pe_un un_neg pe_int) (fun _ _ => rfl)) (fun _ _ => rfl)) pe_int (fun _ _ => rfl)) (nomark _))) (fun _ _ _ _ _ => pv 4)) (pe_un un_neg pe_int) (fun _ _ => rfl)))
      (pss_one (ps_ret (pe_tup (pa_cons (pe_slice sl_list (pv 3) po_none (po_some (pv 6))) (pa_cons (pe_slice sl_list (pv 3) (po_some (pv 6)) po_none) pa_nil)))))))))), ?_⟩
    obtain ⟨q, as, ht, hq, hP, hG⟩ := id W
    have hal : as.length = ps.length := Paired.length hP
    have hps : 1 ≤ ps.length := by
      obtain ⟨p, hp', _⟩ := hG.2.2 0 hG.1
      exact List.length_pos_of_mem hp'
    obtain ⟨xb, hxb⟩ := B.list
    have kp : ∀ {H' : Hp}, Grow b H H' → Kp H H' := fun g => Kp.grow hxb g
    have gd : ∀ a, a < ps.length → ps.getD a (0, 0) = ps[a]! := fun a ha => by
      rw [List.getD_eq_getElem?_getD, List.getElem?_eq_getElem ha, getElem!_pos ps a ha]
      rfl
    -- w[1][a] of an arrow
    have pick : ∀ {H' : Hp} (a : Nat), Grow b H H' → a < ps.length → ∃ e, as[a]? = some (.ref e) ∧ H' e = some (.tup [.int (ps.getD a (0, 0)).1, .int (ps.getD a (0, 0)).2]) := fun {H'} a g ha => by
      have hp' : ps[a]? = some ps[a] := List.getElem?_eq_getElem ha
      obtain ⟨e, h1, h2⟩ := pair_at hP hp'
      refine ⟨e, h1, ?_⟩
      rw [List.getD_eq_getElem?_getD, hp']
      exact (kp g).t h2
    refine ⟨_, rfl, _, rfl, t, _, _, _, rfl, rfl, SqT.of ht, rfl, q, _, rfl, .inr hq.sq, b, l, ns, _, rfl, B, by omega, by omega, fun H1 r r0 r1 O1 B1 => ?_⟩
    obtain ⟨a0, rfl⟩ := Int.eq_ofNat_of_zero_le r0
    have ha0 : a0 < ps.length := by omega
    refine ⟨_, rfl, by show 1 ≤ sizeLine; decide, fun R hR => ?_⟩
    have nbR : b ≠ R := B1.nb hR
    have nlR : l ≠ R := B1.nl hR
    have hR0 : H R = none := by
      cases z : H R with
      | none => rfl
      | some o =>
        have y := O1.grow R o nbR.symm z
        rw [y] at hR
        cases hR
    have G2 : Grow b H (upd H1 R (.lst [.int (a0 : Int)])) := O1.grow.new hR0
    have B2 : BagAt b l ns (upd H1 R (.lst [.int (a0 : Int)])) := B1.new hR
    have hR2 : upd H1 R (.lst [.int (a0 : Int)]) R = some (.lst (nums [a0])) := upd_same
    generalize upd H1 R (.lst [.int (a0 : Int)]) = H2 at G2 B2 hR2
    -- some arrows
    refine ⟨fun σ H' => ∃ (v2 v4 : Option V) (r : List Nat), σ = [some (.ref b), some (.ref t), v2, some (.ref R), v4, none, none, none, none] ∧ H' R = some (.lst (nums r)) ∧ r ≠ [] ∧ chain ps r ∧ r.length ≤ 5 ∧ BagAt b l ns H' ∧ Grow b H H', ?_, ?_⟩
    · refine ⟨_, rfl, b, l, ns, _, rfl, B2, by decide, by decide, fun H3 m m0 m1 O3 B3 => ?_⟩
      obtain ⟨m, rfl⟩ := Int.eq_ofNat_of_zero_le m0
      refine ⟨_, rfl, by omega, by omega, for_range (lo := 0) (n := m) (fun i σ H' => ∃ (v2 v4 : Option V) (r : List Nat), σ = [some (.ref b), some (.ref t), v2, some (.ref R), v4, none, none, none, none] ∧ H' R = some (.lst (nums r)) ∧ r ≠ [] ∧ chain ps r ∧ r.length = i + 1 ∧ BagAt b l ns H' ∧ Grow b H H')
        ⟨_, _, [a0], rfl, by rw [O3 R nbR.symm]; exact hR2, List.cons_ne_nil _ _, ha0, rfl, B3, G2.trans O3.grow⟩ ?_ ?_⟩
      · rintro i σ H4 hi ⟨v2, v4, r, rfl, hR4, hrn, hch, hrl, B4, G4⟩
        have hlast := chain_lt hch _ (last_mem hrn)
        refine ⟨_, rfl, .inl ⟨rfl, _, SqL.of hR4⟩, _, rfl, _, rfl, _, rfl, _, rfl, R, _, _, _, rfl, rfl, SqL.of hR4, at_last hrn, t, n, ps, r.getLastD 0, rfl, W.kp (kp G4), by omega, hlast, fun H5 L s5 nL hL => ?_⟩
        have B5 := bag_same s5 B4
        have nLb : L ≠ b := fun z => by
          obtain ⟨ys, hy⟩ := B4.list
          rw [z, hy] at nL
          cases nL
        have ol : 1 ≤ (nums (onOf ps (r.getLastD 0))).length ∧ (nums (onOf ps (r.getLastD 0))).length ≤ 1000 := by
          unfold nums
          rw [List.length_map]
          have z1 := List.length_pos_iff.mpr (on_ne hG hlast)
          have z2 := idxs_len (ps.getD (r.getLastD 0) (0, 0)).2 (ps.map (·.1)) 0
          rw [List.length_map] at z2
          unfold onOf at z1 ⊢
          omega
        refine ⟨b, l, L, ns, _, rfl, B5, SqL.of hL, nLb, fun o e => ⟨_, (Option.some.inj (e.symm.trans hL))⟩, ol.1, ol.2, fun H6 v O6 B6 hv => ?_⟩
        obtain ⟨a, ha, rfl⟩ := List.mem_map.mp hv
        obtain ⟨hal', hab⟩ := on_mem ha
        have hR6 : H6 R = some (.lst (nums r)) := by rw [O6 R nbR.symm]; exact s5 _ _ hR4
        have ln : (nums r).length = r.length := by unfold nums; rw [List.length_map]
        refine ⟨R, _, _, rfl, rfl, hR6, by rw [sizeLine_eq, ln]; omega, _, _, r ++ [a], rfl, by rw [upd_same, nums_snoc]; rfl, by simp, chain_snoc hal' hrn hch hab.symm, by rw [List.length_append, hrl]; rfl, B6.other nbR nlR, ((G4.trans (fun c o _ h => s5 c o h)).trans O6.grow).new hR0⟩
      · rintro σ H4 ⟨v2, v4, r, rfl, hR4, hrn, hch, hrl, B4, G4⟩
        exact ⟨_, _, r, rfl, hR4, hrn, hch, by omega, B4, G4⟩
    rintro σ H3 ⟨v2, v4, r, rfl, hR3, hrn, hch, hrl, B3, G3⟩
    -- where they begin
    refine ⟨fun σ H' => ∃ (v2 v4 : Option V) (Bg : Addr), σ = [some (.ref b), some (.ref t), v2, some (.ref R), v4, some (.ref Bg), none, none, none] ∧ H' R = some (.lst (nums r)) ∧ H' Bg = some (.lst (nums (bgs ps r))) ∧ H Bg = none ∧ b ≠ Bg ∧ l ≠ Bg ∧ R ≠ Bg ∧ BagAt b l ns H' ∧ Grow b H H', ?_, ?_⟩
    · have ln : (nums r).length = r.length := by unfold nums; rw [List.length_map]
      refine ⟨_, rfl, R, rfl, ⟨_, SqL.of hR3⟩, fun D hD => ?_⟩
      have nDb := B3.nb hD
      have hD0 : H D = none := by
        cases z : H D with
        | none => rfl
        | some o =>
          have y := G3 D o nDb.symm z
          rw [y] at hD
          cases hD
      refine lc_list (K := K) (a := R) (xs := nums r) (fun j H' => H' D = some (.lst (nums (bgs ps (r.take j)))) ∧ Same H3 H')
        ⟨upd_same, same_new (Same.refl H3) hD⟩ (fun j H' _ ⟨_, s'⟩ => SqL.of (s' _ _ hR3)) ?_ ?_
      · rintro j y H4 hy ⟨hD4, s4⟩
        obtain ⟨a, ha, rfl⟩ := nums_get hy
        have hla := chain_lt hch a (List.mem_of_getElem? ha)
        have G4 : Grow b H H4 := G3.trans (fun c o _ h => s4 c o h)
        obtain ⟨e, he1, he2⟩ := pick a G4 hla
        refine ⟨rfl, _, rfl, t, _, _, _, rfl, rfl, SqT.of ((kp G4).t ht), rfl, _, rfl, q, _, _, _, rfl, rfl, ((kp G4).f hq).sq, atI_nat he1, e, _, _, _, rfl, rfl, SqT.of he2, rfl, _, hD4, ?_, ?_, same_put s4 hD⟩
        · rw [sizeLine_eq]
          unfold nums bgs
          rw [List.length_map, List.length_map]
          have := List.length_take_le' j r
          omega
        · rw [upd_same, take_snoc ha]
          unfold bgs
          rw [List.map_append]
          exact congrArg (fun l => some (HO.lst l)) (nums_snoc _ _).symm
      · rintro H4 ⟨hD4, s4⟩
        rw [ln, List.take_length] at hD4
        exact ⟨_, _, D, rfl, s4 _ _ hR3, hD4, hD0, nDb, B3.nl hD, ne_of_none hR3 hD, bag_same s4 B3, G3.trans (fun c o _ h => s4 c o h)⟩
    rintro σ H4 ⟨v2, v4, Bg, rfl, hR4, hB4, hBg0, nbB, nlB, nRB, B4, G4⟩
    -- until it comes round
    refine ⟨fun σ H' => ∃ (v2 v4 : Option V) (r : List Nat), σ = [some (.ref b), some (.ref t), v2, some (.ref R), v4, some (.ref Bg), none, none, none] ∧ H' R = some (.lst (nums r)) ∧ H' Bg = some (.lst (nums (bgs ps r))) ∧ r ≠ [] ∧ chain ps r ∧ end_ ps r ∈ bgs ps r ∧ r.length ≤ n + 5 ∧ BagAt b l ns H' ∧ Grow b H H', ?_, ?_⟩
    · refine ⟨fun m σ H' => ∃ (v2 v4 : Option V) (r : List Nat), σ = [some (.ref b), some (.ref t), v2, some (.ref R), v4, some (.ref Bg), none, none, none] ∧ H' R = some (.lst (nums r)) ∧ H' Bg = some (.lst (nums (bgs ps r))) ∧ r ≠ [] ∧ chain ps r ∧ fresh_ n ps r = m ∧ r.length + m ≤ n + 5 ∧ BagAt b l ns H' ∧ Grow b H H',
        ⟨_, v2, v4, r, rfl, hR4, hB4, hrn, hch, rfl, ?_, B4, G4⟩, ?_⟩
      · have z := List.length_filter_le (fun x : Nat => decide (x ∉ bgs ps r)) (List.range n)
        rw [List.length_range] at z
        unfold fresh_
        omega
      rintro m σ H5 ⟨v2, v4, r, rfl, hR5, hB5, hrn, hch, hfm, hrm, B5, G5⟩
      have hlast := chain_lt hch _ (last_mem hrn)
      obtain ⟨e, he1, he2⟩ := pick _ G5 hlast
      refine ⟨_, rfl, t, _, _, _, rfl, rfl, SqT.of ((kp G5).t ht), rfl, _, rfl, _, rfl, R, _, _, _, rfl, rfl, SqL.of hR5, at_last hrn, q, _, _, _, rfl, rfl, ((kp G5).f hq).sq, atI_nat he1, e, _, _, _, rfl, rfl, SqT.of he2, rfl, _, rfl, Bg, _, rfl, .inl (SqL.of hB5), rfl, flatN _, ?_⟩
      have ev : (if true then !inV (.int (((ps.getD (r.getLastD 0) (0, 0)).2 : Nat) : Int)) (nums (bgs ps r)) else inV (.int (((ps.getD (r.getLastD 0) (0, 0)).2 : Nat) : Int)) (nums (bgs ps r))) = decide (end_ ps r ∉ bgs ps r) := by
        rw [if_pos rfl, inN, decide_not]
        rfl
      rw [ev]
      by_cases hin : end_ ps r ∈ bgs ps r
      · exact ⟨false, congrArg V.bl (decide_eq_false (fun z => z hin)), iteF ⟨_, _, r, rfl, hR5, hB5, hrn, hch, hin, by omega, B5, G5⟩⟩
      refine ⟨true, congrArg V.bl (decide_eq_true hin), iteT ⟨fun σ' H' => ∃ m', m' < m ∧ ∃ (v2 v4 : Option V) (r : List Nat), σ' = [some (.ref b), some (.ref t), v2, some (.ref R), v4, some (.ref Bg), none, none, none] ∧ H' R = some (.lst (nums r)) ∧ H' Bg = some (.lst (nums (bgs ps r))) ∧ r ≠ [] ∧ chain ps r ∧ fresh_ n ps r = m' ∧ r.length + m' ≤ n + 5 ∧ BagAt b l ns H' ∧ Grow b H H', fun _ _ z => z, ?_⟩⟩
      refine ⟨_, rfl, .inl ⟨rfl, _, SqL.of hR5⟩, _, rfl, _, rfl, _, rfl, _, rfl, R, _, _, _, rfl, rfl, SqL.of hR5, at_last hrn, t, n, ps, r.getLastD 0, rfl, W.kp (kp G5), by omega, hlast, fun H6 L s6 nL hL => ?_⟩
      have B6 := bag_same s6 B5
      have nLb : L ≠ b := fun z => by
        obtain ⟨ys, hy⟩ := B5.list
        rw [z, hy] at nL
        cases nL
      have ol : 1 ≤ (nums (onOf ps (r.getLastD 0))).length ∧ (nums (onOf ps (r.getLastD 0))).length ≤ 1000 := by
        unfold nums
        rw [List.length_map]
        have z1 := List.length_pos_iff.mpr (on_ne hG hlast)
        have z2 := idxs_len (ps.getD (r.getLastD 0) (0, 0)).2 (ps.map (·.1)) 0
        rw [List.length_map] at z2
        unfold onOf at z1 ⊢
        omega
      refine ⟨b, l, L, ns, _, rfl, B6, SqL.of hL, nLb, fun o e => ⟨_, (Option.some.inj (e.symm.trans hL))⟩, ol.1, ol.2, fun H7 v O7 B7 hv => ?_⟩
      obtain ⟨a, ha, rfl⟩ := List.mem_map.mp hv
      obtain ⟨hal', hab⟩ := on_mem ha
      have hR7 : H7 R = some (.lst (nums r)) := by rw [O7 R nbR.symm]; exact s6 _ _ hR5
      have hB7 : H7 Bg = some (.lst (nums (bgs ps r))) := by rw [O7 Bg nbB.symm]; exact s6 _ _ hB5
      have ln : (nums r).length = r.length := by unfold nums; rw [List.length_map]
      have lb : (nums (bgs ps r)).length = r.length := by unfold nums bgs; rw [List.length_map, List.length_map]
      refine ⟨R, _, _, rfl, rfl, hR7, by rw [sizeLine_eq, ln]; omega, ?_⟩
      have G8 : Grow b H (upd H7 R (.lst (nums r ++ [nV a]))) := ((G5.trans (fun c o _ h => s6 c o h)).trans O7.grow).new hR0
      have B8 : BagAt b l ns (upd H7 R (.lst (nums r ++ [nV a]))) := B7.other nbR nlR
      have hR8 : upd H7 R (.lst (nums r ++ [nV a])) R = some (.lst (nums (r ++ [a]))) := by rw [upd_same, nums_snoc]; rfl
      have hB8 : upd H7 R (.lst (nums r ++ [nV a])) Bg = some (.lst (nums (bgs ps r))) := by rw [upd_ne nRB.symm]; exact hB7
      generalize upd H7 R (.lst (nums r ++ [nV a])) = H8 at G8 B8 hR8 hB8
      have hrn8 : r ++ [a] ≠ [] := by simp
      have el : (r ++ [a]).getLastD 0 = a := by rw [List.getLastD_eq_getLast?, List.getLast?_append]; rfl
      obtain ⟨e8, he3, he4⟩ := pick a G8 hal'
      refine ⟨_, rfl, .inl ⟨rfl, _, SqL.of hB8⟩, _, rfl, t, _, _, _, rfl, rfl, SqT.of ((kp G8).t ht), rfl, _, rfl, _, rfl, R, _, _, _, rfl, rfl, SqL.of hR8, at_last hrn8, q, _, _, _, rfl, rfl, ((kp G8).f hq).sq, by rw [el]; exact atI_nat he3, e8, _, _, _, rfl, rfl, SqT.of he4, rfl, Bg, _, _, rfl, rfl, hB8, by rw [sizeLine_eq, lb]; omega, ?_⟩
      have hless : fresh_ n ps (r ++ [a]) < fresh_ n ps r := fresh_less (by
          rw [hab]
          have hp' : ps.getD (r.getLastD 0) (0, 0) = ps[r.getLastD 0] := by rw [List.getD_eq_getElem?_getD, List.getElem?_eq_getElem hlast]; rfl
          rw [hp']
          exact (hG.2.1 _ (List.getElem_mem hlast)).2) (by rw [hab]; exact hin)
      refine ⟨_, by rw [← hfm]; exact hless, _, _, r ++ [a], rfl, by rw [upd_ne nRB]; exact hR8, ?_, hrn8, chain_snoc hal' hrn hch hab.symm, rfl, by rw [List.length_append]; simp only [List.length_cons, List.length_nil]; omega, B8.other nbB nlB, G8.new hBg0⟩
      rw [upd_same]
      unfold bgs
      rw [List.map_append]
      exact congrArg (fun l => some (HO.lst l)) (nums_snoc _ _).symm
    clear hR4 hB4 hrn hch hrl B4 G4 hR3 B3 G3
    rintro σ H5 ⟨v2, v4, r, rfl, hR5, hB5, hrn, hch, hin, hrl, B5, G5⟩
    have hlast := chain_lt hch _ (last_mem hrn)
    have lb : (nums (bgs ps r)).length = (bgs ps r).length := by unfold nums; rw [List.length_map]
    have lr : (bgs ps r).length = r.length := by unfold bgs; rw [List.length_map]
    -- the last place of that room
    refine ⟨_, rfl, Bg, _, rfl, SqL.of hB5, fun D hD => ?_⟩
    refine lc_it (walk_enum (K := K) (a := Bg) (xs := nums (bgs ps r))) (fun i H' => H' D = some (.lst (nums (idxs ((bgs ps r).take i) (end_ ps r) 0))) ∧ Same H5 H')
      ⟨upd_same, same_new (Same.refl H5) hD⟩ (fun i H' _ ⟨_, s'⟩ => SqL.of (s' _ _ hB5)) ?_ ?_
    · rintro i x H6 H7 hi ⟨hD6, s6⟩ ⟨Tt, x1, x2, rfl, hT, rfl, e1, e2⟩
      have e1 : V.int (i : Nat) = x1 := Option.some.inj e1
      subst e1
      obtain ⟨rm, hrm, rfl⟩ := nums_get e2
      have s7 : Same H5 (upd H6 Tt (.tup [.int (i : Nat), .int (rm : Int)])) := same_new s6 hT
      have hD7 : upd H6 Tt (.tup [.int (i : Nat), .int (rm : Int)]) D = some (.lst (nums (idxs ((bgs ps r).take i) (end_ ps r) 0))) := by rw [upd_ne (ne_of_none hD6 hT)]; exact hD6
      have G7 : Grow b H (upd H6 Tt (.tup [.int (i : Nat), .int (rm : Int)])) := G5.trans (fun c o _ h => s7 c o h)
      obtain ⟨e, he1, he2⟩ := pick _ G7 hlast
      refine ⟨Tt, _, rfl, SqT.of upd_same, rfl, _, _, rfl, _, _, rfl, rfl, rfl, _, rfl, _, rfl, t, _, _, _, rfl, rfl, SqT.of ((kp G7).t ht), rfl, _, rfl, _, rfl, R, _, _, _, rfl, rfl, SqL.of (s7 _ _ hR5), at_last hrn, q, _, _, _, rfl, rfl, ((kp G7).f hq).sq, atI_nat he1, e, _, _, _, rfl, rfl, SqT.of he2, rfl, rfl, ?_⟩
      have ti : ((bgs ps r).take i).length = i := by
        rw [List.length_take]
        have := (List.getElem?_eq_some_iff.mp hrm).1
        omega
      by_cases he : rm = end_ ps r
      · refine ⟨true, congrArg V.bl (decide_eq_true (by rw [he]; rfl)), iteT ⟨_, rfl, _, hD7, ?_, ?_, same_put s7 hD⟩⟩
        · rw [sizeLine_eq]
          unfold nums
          rw [List.length_map]
          have z := idxs_len (end_ ps r) ((bgs ps r).take i) 0
          rw [ti] at z
          have := (List.getElem?_eq_some_iff.mp hrm).1
          omega
        · rw [upd_same, take_snoc hrm, idxs_snoc, if_pos he, ti, Nat.zero_add, nums_snoc]
      · refine ⟨false, congrArg V.bl (decide_eq_false (fun z => he (by injection z with z; exact Int.ofNat.inj z))), iteF ⟨?_, s7⟩⟩
        rw [take_snoc hrm, idxs_snoc, if_neg he, List.append_nil]
        exact hD7
    · rintro H6 ⟨hD6, s6⟩
      rw [lb, List.take_length] at hD6
      have ine : idxs (bgs ps r) (end_ ps r) 0 ≠ [] := fun z => idxs_none _ _ _ z hin
      obtain ⟨k, ek, hk⟩ := idxs_mem _ _ _ _ (last_mem ine)
      rw [Nat.zero_add] at ek
      have hkl : k ≤ r.length := by
        have := (List.getElem?_eq_some_iff.mp hk).1
        omega
      refine ⟨_, rfl, D, _, _, _, rfl, rfl, SqL.of hD6, at_last ine, ?_⟩
      rw [ek]
      refine ⟨_, rfl, _, rfl, _, rfl, R, _, rfl, SqL.of (s6 _ _ hR5), fun p1 hp1 => ?_⟩
      have s7 : Same H6 (upd H6 p1 (.lst (cutV (nums r) none (some (k : Int))))) := same_new (Same.refl H6) hp1
      refine ⟨_, rfl, _, rfl, _, rfl, R, _, rfl, SqL.of (s7 _ _ (s6 _ _ hR5)), fun p2 hp2 => ⟨by show 2 ≤ sizeLine; decide, fun u hu => ?_⟩⟩
      have s8 := s7.trans (same_new (o := .lst (cutV (nums r) (some (k : Int)) none)) (Same.refl _) hp2)
      have s9 := s8.trans (same_new (o := .tup [.ref p1, .ref p2]) (Same.refl _) hu)
      obtain ⟨d1, d2⟩ := drop_round hk
      have sAll : Same H5 _ := s6.trans s9
      refine kk _ u p1 p2 (r.take k) (r.drop k) (G5.trans (fun c o _ h => sAll c o h)) (bag_same sAll B5) upd_same ?_ ?_ d1 (by rw [List.take_append_drop]; exact hch) d2 ?_
      · rw [upd_ne (ne_of_none (by rw [upd_ne (ne_of_none upd_same hp2), upd_same]) hu), upd_ne (ne_of_none upd_same hp2), upd_same, cut_take r hkl]
      · rw [upd_ne (ne_of_none upd_same hu), upd_same, cut_drop r hkl]
      · rw [List.length_take, List.length_drop]
        omega
end
end KW


set_option Elab.async false
set_option maxRecDepth 100000
set_option maxHeartbeats 2000000
/-! The program's walks: the shortest ring, a ring turned, the least form. -/
namespace KW
open PySem PySem.Spec PyProof.Rows L2
theorem sqT_kp {K : PySem.W.Frag} {H H' : Hp} (k : Kp H H') {a : Addr} {xs : List V} (h : SqT K H a xs) : SqT K H' a xs := by
  rcases h with (h | ⟨o, h⟩) | h
  · exact .inl (.inl (k.t h))
  · exact .inl (.inr ⟨o, k _ _ trivial h⟩)
  · exact .inr h
theorem nums_len (l : List Nat) : (nums l).length = l.length := by unfold nums; rw [List.length_map]
theorem nD_eqv (a b : Nat) : PyData.eqv (nD a) (nD b) = decide (a = b) := by
  have e : PyData.eqv (nD a) (nD b) = decide ((a : Int) = (b : Int)) := rfl
  rw [e]
  by_cases h : a = b
  · rw [h]
    simp
  · have h' : ¬ ((a : Int) = (b : Int)) := by omega
    simp [h, h']
theorem nDs_eqv : ∀ l m : List Nat, PyData.eqvAll (l.map nD) (m.map nD) = decide (l = m)
  | [], [] => by simp [PyData.eqvAll]
  | [], q :: qs => by simp [PyData.eqvAll]
  | p :: ps, [] => by simp [PyData.eqvAll]
  | p :: ps, q :: qs => by
    simp only [List.map_cons, PyData.eqvAll, nDs_eqv ps qs, nD_eqv]
    by_cases h1 : p = q
    · simp [h1]
    · simp [h1]
theorem rowD_eqv (l m : List Nat) : PyData.eqv (rowD l) (rowD m) = decide (l = m) := by
  unfold rowD
  simp only [PyData.eqv, nDs_eqv]
theorem row_shaped (l : List Nat) : SeqAt.shaped (rowD l) = true := by
  have h := nums_depth l
  exact shaped_of (by unfold rowD; simp only [PyData.canLay0]; exact nums_lay l) (by unfold rowD; simp only [PyData.depth]; omega)
theorem dp_row {K : PySem.W.Frag} {H : Hp} {a : Addr} {l : List Nat} (h : SqT K H a (nums l)) : Dp K H (.ref a) (rowD l) := .tup h (dp_nums l)
theorem cutN (l : List Nat) (lo hi : Option Int) : cutV (nums l) lo hi = nums ((l.drop (HT.sIx l.length 0 lo)).take (HT.sIx l.length l.length hi - HT.sIx l.length 0 lo)) := by
  unfold cutV
  rw [nums_len]
  unfold nums
  rw [← List.map_drop, ← List.map_take]
theorem sIx_nat {n k d : Nat} (h : k ≤ n) : HT.sIx n d (some (k : Int)) = k := by
  unfold HT.sIx
  simp only
  split
  · omega
  · omega
theorem cut_to (l : List Nat) {k : Nat} (h : k ≤ l.length) : cutV (nums l) none (some (k : Int)) = nums (l.take k) := by
  rw [cutN, sIx_nat h]
  show nums (List.take (k - 0) (List.drop 0 l)) = _
  rw [List.drop_zero, Nat.sub_zero]
theorem cut_from (l : List Nat) {k : Nat} (h : k ≤ l.length) : cutV (nums l) (some (k : Int)) none = nums (l.drop k) := by
  rw [cutN, sIx_nat h]
  show nums (List.take (l.length - k) (List.drop k l)) = _
  rw [List.take_of_length_le (by rw [List.length_drop]; omega)]
theorem nums_rep (k : Nat) (l : List Nat) : (List.replicate k (nums l)).flatten = nums ((List.replicate k l).flatten) := by
  induction k with
  | zero => rfl
  | succ k ih =>
    rw [List.replicate_succ, List.replicate_succ, List.flatten_cons, List.flatten_cons, ih]
    unfold nums
    rw [List.map_append]
theorem numsAt {l : List Nat} {i : Nat} (h : i < l.length) : (nums l)[i]? = some (.int ((l.getD i 0 : Nat) : Int)) := by
  unfold nums
  rw [List.getElem?_map, List.getD_eq_getElem?_getD, List.getElem?_eq_getElem h]
  rfl
theorem nums_ne {l : List Nat} (h : 0 < l.length) : nums l ≠ [] := fun z => by
  have := congrArg List.length z
  rw [nums_len] at this
  simp at this
  rw [this] at h
  exact absurd h (Nat.lt_irrefl _)
theorem nums_get' {l : List Nat} {j : Nat} {y : V} (h : (nums l)[j]? = some y) : ∃ a, l[j]? = some a ∧ y = .int (a : Int) := by
  unfold nums at h
  rw [List.getElem?_map] at h
  cases q : l[j]? with
  | none =>
    rw [q] at h
    cases h
  | some a =>
    rw [q] at h
    exact ⟨a, rfl, (Option.some.inj h).symm⟩
def spShortest (K : PySem.W.Frag) : Sp := fun vs H Q _ => ∃ (a : Addr) (rg : List Nat), vs = [.ref a] ∧ SqT K H a (nums rg) ∧ rg ≠ [] ∧ rg.length ≤ 1000 ∧
  ∀ (H' : Hp) (p : Addr) (g : Nat), Same H H' → SqT K H' p (nums (rg.take g)) → 0 < g → g ≤ rg.length → perOk rg g → (∀ d, 0 < d → d < g → ¬ perOk rg d) → Q (.ref p) H'
def spTurned (K : PySem.W.Frag) : Sp := fun vs H Q _ => ∃ (a : Addr) (rg : List Nat) (m : Int), vs = [.ref a, .int m] ∧ SqT K H a (nums rg) ∧ rg ≠ [] ∧ rg.length ≤ 1000 ∧
  ∀ (H' : Hp) (p : Addr), Same H H' → SqT K H' p (nums (rot rg (m % rg.length).toNat)) → Q (.ref p) H'
def spLeastWalk (K : PySem.W.Frag) : Sp := fun vs H Q _ => ∃ (a b : Addr) (ah rg : List Nat), vs = [.ref a, .ref b] ∧ SqT K H a (nums ah) ∧ SqT K H b (nums rg) ∧ rg ≠ [] ∧ ah.length ≤ 1000 ∧ rg.length ≤ 1000 ∧
  ∀ (H' : Hp) (u p1 p2 : Addr) (ah' rg' : List Nat), Same H H' → H' u = some (.tup [.ref p1, .ref p2]) → SqT K H' p1 (nums ah') → SqT K H' p2 (nums rg') → Red ah' rg' → (∀ i, beat ah' rg' i = beat ah rg i) → ah'.length ≤ ah.length → rg'.length ≤ rg.length → Q (.ref u) H'
section
variable {P : Program} {w : World} {K : PySem.W.Frag} {mg : Str → Option Value} {base : Heap}
abbrev nShortest : List Str := ["ring", "many"]
abbrev nTurned : List Str := ["ring", "many", "cut"]
/-- how far a loop is turned when so many arrows ahead are left -/
def cI (L g m : Nat) : Nat := (((m : Int) - L) % g).toNat
theorem cI_lt {L g m : Nat} (h : 0 < g) : cI L g m < g := by
  unfold cI
  have := Int.emod_lt_of_pos ((m : Int) - L) (show (0 : Int) < g by omega)
  have := Int.emod_nonneg ((m : Int) - L) (show (g : Int) ≠ 0 by omega)
  omega
theorem cI_int {L g m : Nat} (h : 0 < g) : ((m : Int) - L) % g = ((cI L g m : Nat) : Int) := by
  unfold cI
  have := Int.emod_nonneg ((m : Int) - L) (show (g : Int) ≠ 0 by omega)
  omega
theorem cI_back {L g m : Nat} (h : 0 < g) : cI L g m = (cI L g (m + 1) + g - 1) % g := by
  have e : ((m : Int) - L) % g = ((((m + 1 : Nat) : Int) - L) % g + g - 1) % g := by
    have z := Int.emod_add_mul_ediv (((m + 1 : Nat) : Int) - L) g
    have e2 : (m : Int) - L = (((m + 1 : Nat) : Int) - L) % g + g - 1 + g * ((((m + 1 : Nat) : Int) - L) / g - 1) := by
      rw [Int.mul_sub, Int.mul_one]
      omega
    rw [e2, Int.add_mul_emod_self_left]
  rw [cI_int h, cI_int h] at e
  have := cI_lt (L := L) (m := m + 1) h
  have e3 : ((cI L g (m + 1) : Nat) : Int) + (g : Int) - 1 = ((cI L g (m + 1) + g - 1 : Nat) : Int) := by omega
  rw [e3] at e
  exact Int.ofNat.inj e
theorem cI_top (L g : Nat) : cI L g L = 0 := by
  unfold cI
  rw [Int.sub_self, Int.zero_emod]
  rfl
abbrev nLeastWalk : List Str := ["ahead", "ring", "loop", "left"]
end
end KW


set_option Elab.async false
set_option maxRecDepth 100000
set_option maxHeartbeats 2000000
/-! The program's walks: whether arrows follow one another. -/
namespace KW
open PySem PySem.Spec PyProof.Rows L2
abbrev sFollows : Stmt := inClass sWebClass 17
abbrev sWrongPl : Stmt := inClass sWebClass 18
/-- a place of a row where all is well -/
def okAt (ps : List (Nat × Nat)) (r : List Int) (k : Nat) : Prop := (0 ≤ r.getD k 0 ∧ r.getD k 0 < ps.length) ∧ (0 < k → (ps.getD (r.getD k 0).toNat (0, 0)).1 = (ps.getD (r.getD (k - 1) 0).toNat (0, 0)).2)
def spFollows (C : Addr) : Sp := fun vs H Q _ => ∃ (x : Addr) (n : Nat) (ps : List (Nat × Nat)) (i j : Nat), vs = [.ref x, .int i, .int j] ∧ WebAt C H x n ps ∧ i < ps.length ∧ j < ps.length ∧ Q (.bl (decide ((ps.getD i (0, 0)).1 = (ps.getD j (0, 0)).2))) H
def spWrong (K : PySem.W.Frag) (C : Addr) : Sp := fun vs H Q _ => ∃ (x a : Addr) (n : Nat) (ps : List (Nat × Nat)) (r : List Int), vs = [.ref x, .ref a] ∧ WebAt C H x n ps ∧ (SqL K H a (r.map V.int) ∨ SqT K H a (r.map V.int)) ∧
  ∀ (H' : Hp) (k : Nat), Same H H' → k ≤ r.length → (∀ j, j < k → okAt ps r j) → (k < r.length → ¬ okAt ps r k) → Q (.int (k : Nat)) H'
def intsN (l : List Nat) : List Int := l.map fun (a : Nat) => (a : Int)
theorem intsN_map (l : List Nat) : (intsN l).map V.int = nums l := by
  unfold intsN nums
  rw [List.map_map]
  rfl
theorem intsN_len (l : List Nat) : (intsN l).length = l.length := by unfold intsN; rw [List.length_map]
theorem intsN_getD (l : List Nat) (i : Nat) : (intsN l).getD i 0 = ((l.getD i 0 : Nat) : Int) := by
  unfold intsN
  rw [List.getD_eq_getElem?_getD, List.getD_eq_getElem?_getD, List.getElem?_map]
  cases l[i]? <;> rfl
theorem WebAt.sameW {C : Addr} {H H' : Hp} {x : Addr} {n : Nat} {ps : List (Nat × Nat)} (s : Same H H') (h : WebAt C H x n ps) : WebAt C H' x n ps := by
  obtain ⟨dx, q, lv, en, as, ls, es, h1, h2⟩ := id h
  exact h.to (Same.kp s) ((s _ _ h1).trans h1.symm)
theorem ps_at {ps : List (Nat × Nat)} {i : Nat} (h : i < ps.length) : ps[i]? = some (ps.getD i (0, 0)) := by
  rw [List.getD_eq_getElem?_getD, List.getElem?_eq_getElem h]
  rfl
theorem dec_nat (a b : Nat) : decide (V.int (a : Int) = V.int (b : Int)) = decide (a = b) := by
  by_cases h : a = b
  · rw [h]
    simp
  · have h' : ¬ (V.int (a : Int) = V.int (b : Int)) := fun z => h (by injection z with z; exact Int.ofNat.inj z)
    simp [h, h']
theorem args2 {x : Addr} {u v : Int} (hu : 0 ≤ u) (hv : 0 ≤ v) : [V.ref x, V.int u, V.int v] = [V.ref x, V.int ((u.toNat : Nat) : Int), V.int ((v.toNat : Nat) : Int)] := by
  rw [Int.toNat_of_nonneg hu, Int.toNat_of_nonneg hv]
section
variable {P : Program} {w : World} {K : PySem.W.Frag} {mg : Str → Option Value} {base : Heap}
abbrev nFollows : List Str := ["self", "arrow", "ahead"]
theorem scFollows : FnScope nFollows ["self", "arrow", "ahead"] (defScope sFollows) := ⟨rfl, rfl, rfl, by decide +kernel, rfl, by decide +kernel, by decide +kernel⟩
theorem ok_follows {f C : Addr} {fd : FuncData} (F : Fun K "follows" "Web.follows" sFollows f fd) (T : WebC K C) : FnOk P w K mg base CX0 1 f fd ["self", "arrow", "ahead"] (spFollows C) := by
  refine F.ok scFollows (fun vs H Q E h => ?_) (fun cdv A outer s H vs Q E hr h => ?_)
  · obtain ⟨x, n, ps, i, j, rfl, _⟩ := h
    rfl
  · obtain ⟨x, n, ps, i, j, rfl, ⟨dx, q, lv, en, as, ls, es, hx, hq, hP, _⟩, hi, hj, k⟩ := h
    obtain ⟨c1, hc1, hp1⟩ := pair_at hP (ps_at hi)
    obtain ⟨c2, hc2, hp2⟩ := pair_at hP (ps_at hj)
    refine ⟨_, (pss_one (ps_ret (pe_cmpR op_eq (pe_ix ix_tup (pe_ix ix_tup (pe_fld (pv 0) rfl) (pv 1) (fun _ _ => rfl)) pe_int (fun _ _ => rfl)) (pe_ix ix_tup (pe_ix ix_tup (pe_fld (pv 0) rfl) (pv 2) (fun _ _ => rfl)) pe_int (fun _ _ => rfl)) (nomark _)))), ?_⟩
    refine ⟨_, rfl, x, C, dx, _, _, rfl, hx, T.cl, T.nP, wf_pairs _ _ _ _, _, rfl, q, _, _, _, rfl, rfl, hq.sq, atI_nat hc1, c1, _, _, _, rfl, rfl, SqT.of hp1, rfl, _, rfl, x, C, dx, _, _, rfl, hx, T.cl, T.nP, wf_pairs _ _ _ _, _, rfl, q, _, _, _, rfl, rfl, hq.sq, atI_nat hc2, c2, _, _, _, rfl, rfl, SqT.of hp2, rfl, rfl, ?_⟩
    rw [dec_nat]
    exact k
abbrev nWrong : List Str := ["self", "row", "at", "arrow"]
theorem scWrongPl : FnScope nWrong ["self", "row"] (defScope sWrongPl) := ⟨rfl, rfl, rfl, by decide +kernel, rfl, by decide +kernel, by decide +kernel⟩
theorem ok_wrong {f fH fF C : Addr} {fd fdH fdF : FuncData} (F : Fun K "wrong_place" "Web.wrong_place" sWrongPl f fd) (T : WebC K C) (GH : FnOk P w K mg base CX0 1 fH fdH ["self", "arrow"] (spHas C)) (bH : Binds K fdH ["self", "arrow"] []) (mH : Meth K C "has_arrow" fH)
    (GF : FnOk P w K mg base CX0 1 fF fdF ["self", "arrow", "ahead"] (spFollows C)) (bF : Binds K fdF ["self", "arrow", "ahead"] []) (mF : Meth K C "follows" fF) (mLen : mg "len" = none) (mEnum : mg "enumerate" = none) : FnOk P w K mg base CX0 2 f fd ["self", "row"] (spWrong K C) := by
  refine F.ok scWrongPl (fun vs H Q E h => ?_) (fun cdv A outer s H vs Q E hr h => ?_)
  · obtain ⟨x, a, n, ps, r, rfl, _⟩ := h
    rfl
  · obtain ⟨x, a, n, ps, r, rfl, W, hS, k⟩ := h
    have lr : (r.map V.int).length = r.length := List.length_map ..
    have at_r : ∀ {i : Nat}, i < r.length → (r.map V.int)[i]? = some (.int (r.getD i 0)) := fun {i} h => by
      rw [List.getElem?_map, List.getD_eq_getElem?_getD, List.getElem?_eq_getElem h]
      rfl
    rcases hS with hS | hS
    · refine ⟨_, (pss_cons (ps_for PassesOwn.never rfl (pi_enum (by rfl) mEnum (pa_cons (pv 1) pa_nil)) (pg_tup rfl (pgs_cons (pg_name (i := 2) scWrongPl.nd rfl (Or.inl rfl)) (pgs_cons (pg_name (i := 3) scWrongPl.nd rfl (Or.inl rfl)) pgs_nil)))
         (pss_cons (ps_if (pt_not (pt_val (pe_meth (pv 0) T.cl mH GH hr bH .nil pass0 (pa_cons (pv 3) pa_nil))))
         (pss_one (ps_ret (pv 2)))
         pss_nil)
         (pss_one (ps_if (PW.pt (pw_and (pt_cmpR op_gt (pv 2) pe_int (nomark _)) (pw_and1 (pt_not (pt_val (pe_meth (pv 0) T.cl mF GF hr bF .nil pass0 (pa_cons (pv 3) (pa_cons (pe_ix ix_list (pv 1) (pe_op op_sub (pv 2) pe_int) (fun _ _ => rfl)) pa_nil))))))))
         (pss_one (ps_ret (pv 2)))
         pss_nil))))
         (pss_one (ps_ret (pe_callB call_len_seq (by rfl) mLen PySem.boot_len (pa_cons (pv 1) pa_nil))))), ?_⟩
      refine ⟨_, rfl, a, _, rfl, hS, for_it (walk_enum (K := K) (a := a) (xs := r.map V.int)) (fun i σ H' => (∃ v2 v3 : Option V, σ = [some (.ref x), some (.ref a), v2, v3]) ∧ (∀ j, j < i → okAt ps r j) ∧ Same H H') ⟨⟨none, none, rfl⟩, fun j hj => absurd hj (Nat.not_lt_zero _), Same.refl H⟩ (fun i σ H' _ ⟨_, _, s'⟩ => s'.seq hS) ?_ ?_⟩
      · rintro i y σ H' H2 hi ⟨⟨v2, v3, rfl⟩, hok, s'⟩ ⟨Tt, x1, x2, rfl, hT, rfl, e1, e2⟩
        have e1 : V.int (i : Nat) = x1 := Option.some.inj e1
        subst e1
        have hi' : i < r.length := by omega
        have e2 : (r.map V.int)[i]? = some x2 := e2
        rw [at_r hi'] at e2
        have e2 := Option.some.inj e2
        subst e2
        have s2 : Same H (upd H' Tt (.tup [.int (i : Nat), .int (r.getD i 0)])) := same_new s' hT
        generalize hH3 : upd H' Tt (.tup [.int (i : Nat), .int (r.getD i 0)]) = H3 at s2
        have hT3 : H3 Tt = some (.tup [.int (i : Nat), .int (r.getD i 0)]) := by rw [← hH3]; exact upd_same
        have W2 := W.sameW s2
        obtain ⟨dx, q, lv, en, as, ls, es, hx, hq, hP, _⟩ := id W2
        refine ⟨Tt, _, rfl, SqT.of hT3, rfl, _, _, rfl, _, _, rfl, rfl, ?_⟩
        by_cases h1 : 0 ≤ r.getD i 0 ∧ r.getD i 0 < ps.length
        case neg =>
          refine ⟨_, rfl, x, dx, _, rfl, hx, wf_meth _ _ _ _ (by decide +kernel), _, rfl, x, n, ps, _, rfl, W2, false, congrArg V.bl (decide_eq_false h1), iteT ⟨_, rfl, k _ i s2 (by omega) hok fun _ z => h1 z.1⟩⟩
        refine ⟨_, rfl, x, dx, _, rfl, hx, wf_meth _ _ _ _ (by decide +kernel), _, rfl, x, n, ps, _, rfl, W2, true, congrArg V.bl (decide_eq_true h1), iteF ?_⟩
        have nx : okAt ps r i → (∃ v2 v3 : Option V, [some (V.ref x), some (.ref a), some (.int (i : Nat)), some (.int (r.getD i 0))] = [some (.ref x), some (.ref a), v2, v3]) ∧ (∀ j, j < i + 1 → okAt ps r j) ∧ Same H H3 := fun z => ⟨⟨_, _, rfl⟩, fun j hj => by
          by_cases e : j = i
          · rw [e]
            exact z
          · exact hok j (by omega), s2⟩
        by_cases h0 : i = 0
        · subst h0
          exact ⟨_, rfl, _, _, rfl, rfl, false, congrArg V.bl (decide_eq_false (by omega)), iteF (iteF (nx ⟨h1, fun z => absurd z (Nat.lt_irrefl _)⟩))⟩
        have e3 : ((i : Nat) : Int) - 1 = ((i - 1 : Nat) : Int) := by omega
        have hb := (hok (i - 1) (by omega)).1
        have eb : r.getD (i - 1) 0 = (((r.getD (i - 1) 0).toNat : Nat) : Int) := by omega
        have ei : r.getD i 0 = (((r.getD i 0).toNat : Nat) : Int) := by omega
        refine ⟨_, rfl, _, _, rfl, rfl, true, congrArg V.bl (decide_eq_true (by omega)), iteT ?_⟩
        refine ⟨_, rfl, x, dx, _, rfl, hx, wf_meth _ _ _ _ (by decide +kernel), _, rfl, _, rfl, _, rfl, _, _, rfl, rfl, a, _, _, _, rfl, rfl, s2.seq hS, by rw [e3]; exact atI_nat (at_r (show i - 1 < r.length by omega)), x, n, ps, (r.getD i 0).toNat, (r.getD (i - 1) 0).toNat, args2 h1.1 hb.1, W2, by omega, by omega, ?_⟩
        by_cases h2 : (ps.getD (r.getD i 0).toNat (0, 0)).1 = (ps.getD (r.getD (i - 1) 0).toNat (0, 0)).2
        · exact ⟨true, congrArg V.bl (decide_eq_true h2), iteF (nx ⟨h1, fun _ => h2⟩)⟩
        · exact ⟨false, congrArg V.bl (decide_eq_false h2), iteT ⟨_, rfl, k _ i s2 (by omega) hok fun _ z => h2 (z.2 (by omega))⟩⟩
      · rintro σ H' ⟨⟨v2, v3, rfl⟩, hok, s'⟩
        rw [lr] at hok
        refine ⟨_, rfl, a, _, rfl, .inl (s'.seq hS), ?_⟩
        rw [lr]
        exact k _ r.length s' (Nat.le_refl _) hok fun z => absurd z (Nat.lt_irrefl _)
    · refine ⟨_, (pss_cons (ps_for PassesOwn.never rfl (pi_enT (by rfl) mEnum (pa_cons (pv 1) pa_nil)) (pg_tup rfl (pgs_cons (pg_name (i := 2) scWrongPl.nd rfl (Or.inl rfl)) (pgs_cons (pg_name (i := 3) scWrongPl.nd rfl (Or.inl rfl)) pgs_nil)))
         (pss_cons (ps_if (pt_not (pt_val (pe_meth (pv 0) T.cl mH GH hr bH .nil pass0 (pa_cons (pv 3) pa_nil))))
         (pss_one (ps_ret (pv 2)))
         pss_nil)
         (pss_one (ps_if (PW.pt (pw_and (pt_cmpR op_gt (pv 2) pe_int (nomark _)) (pw_and1 (pt_not (pt_val (pe_meth (pv 0) T.cl mF GF hr bF .nil pass0 (pa_cons (pv 3) (pa_cons (pe_ix ix_tup (pv 1) (pe_op op_sub (pv 2) pe_int) (fun _ _ => rfl)) pa_nil))))))))
         (pss_one (ps_ret (pv 2)))
         pss_nil))))
         (pss_one (ps_ret (pe_callB call_len_seq (by rfl) mLen PySem.boot_len (pa_cons (pv 1) pa_nil))))), ?_⟩
      refine ⟨_, rfl, a, _, rfl, hS, for_it (walk_enT (K := K) (a := a) (xs := r.map V.int)) (fun i σ H' => (∃ v2 v3 : Option V, σ = [some (.ref x), some (.ref a), v2, v3]) ∧ (∀ j, j < i → okAt ps r j) ∧ Same H H') ⟨⟨none, none, rfl⟩, fun j hj => absurd hj (Nat.not_lt_zero _), Same.refl H⟩ (fun i σ H' _ ⟨_, _, s'⟩ => sqT_kp (Same.kp s') hS) ?_ ?_⟩
      · rintro i y σ H' H2 hi ⟨⟨v2, v3, rfl⟩, hok, s'⟩ ⟨Tt, x1, x2, rfl, hT, rfl, e1, e2⟩
        have e1 : V.int (i : Nat) = x1 := Option.some.inj e1
        subst e1
        have hi' : i < r.length := by omega
        have e2 : (r.map V.int)[i]? = some x2 := e2
        rw [at_r hi'] at e2
        have e2 := Option.some.inj e2
        subst e2
        have s2 : Same H (upd H' Tt (.tup [.int (i : Nat), .int (r.getD i 0)])) := same_new s' hT
        generalize hH3 : upd H' Tt (.tup [.int (i : Nat), .int (r.getD i 0)]) = H3 at s2
        have hT3 : H3 Tt = some (.tup [.int (i : Nat), .int (r.getD i 0)]) := by rw [← hH3]; exact upd_same
        have W2 := W.sameW s2
        obtain ⟨dx, q, lv, en, as, ls, es, hx, hq, hP, _⟩ := id W2
        refine ⟨Tt, _, rfl, SqT.of hT3, rfl, _, _, rfl, _, _, rfl, rfl, ?_⟩
        by_cases h1 : 0 ≤ r.getD i 0 ∧ r.getD i 0 < ps.length
        case neg =>
          refine ⟨_, rfl, x, dx, _, rfl, hx, wf_meth _ _ _ _ (by decide +kernel), _, rfl, x, n, ps, _, rfl, W2, false, congrArg V.bl (decide_eq_false h1), iteT ⟨_, rfl, k _ i s2 (by omega) hok fun _ z => h1 z.1⟩⟩
        refine ⟨_, rfl, x, dx, _, rfl, hx, wf_meth _ _ _ _ (by decide +kernel), _, rfl, x, n, ps, _, rfl, W2, true, congrArg V.bl (decide_eq_true h1), iteF ?_⟩
        have nx : okAt ps r i → (∃ v2 v3 : Option V, [some (V.ref x), some (.ref a), some (.int (i : Nat)), some (.int (r.getD i 0))] = [some (.ref x), some (.ref a), v2, v3]) ∧ (∀ j, j < i + 1 → okAt ps r j) ∧ Same H H3 := fun z => ⟨⟨_, _, rfl⟩, fun j hj => by
          by_cases e : j = i
          · rw [e]
            exact z
          · exact hok j (by omega), s2⟩
        by_cases h0 : i = 0
        · subst h0
          exact ⟨_, rfl, _, _, rfl, rfl, false, congrArg V.bl (decide_eq_false (by omega)), iteF (iteF (nx ⟨h1, fun z => absurd z (Nat.lt_irrefl _)⟩))⟩
        have e3 : ((i : Nat) : Int) - 1 = ((i - 1 : Nat) : Int) := by omega
        have hb := (hok (i - 1) (by omega)).1
        have eb : r.getD (i - 1) 0 = (((r.getD (i - 1) 0).toNat : Nat) : Int) := by omega
        have ei : r.getD i 0 = (((r.getD i 0).toNat : Nat) : Int) := by omega
        refine ⟨_, rfl, _, _, rfl, rfl, true, congrArg V.bl (decide_eq_true (by omega)), iteT ?_⟩
        refine ⟨_, rfl, x, dx, _, rfl, hx, wf_meth _ _ _ _ (by decide +kernel), _, rfl, _, rfl, _, rfl, _, _, rfl, rfl, a, _, _, _, rfl, rfl, sqT_kp (Same.kp s2) hS, by rw [e3]; exact atI_nat (at_r (show i - 1 < r.length by omega)), x, n, ps, (r.getD i 0).toNat, (r.getD (i - 1) 0).toNat, args2 h1.1 hb.1, W2, by omega, by omega, ?_⟩
        by_cases h2 : (ps.getD (r.getD i 0).toNat (0, 0)).1 = (ps.getD (r.getD (i - 1) 0).toNat (0, 0)).2
        · exact ⟨true, congrArg V.bl (decide_eq_true h2), iteF (nx ⟨h1, fun _ => h2⟩)⟩
        · exact ⟨false, congrArg V.bl (decide_eq_false h2), iteT ⟨_, rfl, k _ i s2 (by omega) hok fun _ z => h2 (z.2 (by omega))⟩⟩
      · rintro σ H' ⟨⟨v2, v3, rfl⟩, hok, s'⟩
        rw [lr] at hok
        refine ⟨_, rfl, a, _, rfl, .inr (sqT_kp (Same.kp s') hS), ?_⟩
        rw [lr]
        exact k _ r.length s' (Nat.le_refl _) hok fun z => absurd z (Nat.lt_irrefl _)
/-- a list or a tuple of numbers -/
def TL (K : PySem.W.Frag) (H : Hp) (a : Addr) (l : List Nat) : Prop := SqL K H a (nums l) ∨ SqT K H a (nums l)
theorem TL.same {H H' : Hp} (s : Same H H') {a : Addr} {l : List Nat} (h : TL K H a l) : TL K H' a l := by
  rcases h with h | h
  · exact .inl (s.seq h)
  · exact .inr (sqT_kp (Same.kp s) h)
def spNeedWalk (K : PySem.W.Frag) (C : Addr) : Sp := fun vs H Q _ => ∃ (x a b : Addr) (n : Nat) (ps : List (Nat × Nat)) (ah rg : List Nat), vs = [.ref x, .ref a, .ref b] ∧ WebAt C H x n ps ∧ TL K H a ah ∧ TL K H b rg ∧ rg ≠ [] ∧ OkW ps (beat ah rg) ∧ ah.length ≤ 1000 ∧ rg.length ≤ 1000 ∧
  ∀ H' : Hp, Same H H' → Q .non H'
theorem head_getD {l : List Nat} (h : l ≠ []) : l.getD 0 0 = l.headD 0 := by
  cases l with
  | nil => exact absurd rfl h
  | cons a r => rfl
theorem laid_ok {ps : List (Nat × Nat)} {ah rg : List Nat} (hn : rg ≠ []) (h : OkW ps (beat ah rg)) : ∀ j, j < (ah ++ rg).length → okAt ps (intsN (ah ++ rg)) j := by
  obtain ⟨h1, h2, h3⟩ := okW_laid hn h
  intro j hj
  rw [List.length_append] at hj
  refine ⟨by rw [intsN_getD]; exact ⟨by omega, by have := h1 j hj; omega⟩, fun j0 => ?_⟩
  rw [intsN_getD, intsN_getD, Int.toNat_natCast, Int.toNat_natCast]
  have z := h2 (j - 1) (by omega)
  rw [show j - 1 + 1 = j by omega] at z
  exact z.symm
abbrev nNeedWalk : List Str := ["web", "ahead", "ring", "laid", "place"]
/-! ### its text -/
def txts (l : List Nat) : List Str := l.map numT
def walkTs (ah rg : List Nat) : List Str := txts ah ++ [("|" : Str)] ++ txts rg
def spWalkText (K : PySem.W.Frag) : Sp := fun vs H Q _ => ∃ (a b : Addr) (ah rg : List Nat), vs = [.ref a, .ref b] ∧ SqT K H a (nums ah) ∧ SqT K H b (nums rg) ∧ (∀ i ∈ ah, i ≤ 500) ∧ (∀ i ∈ rg, i ≤ 500) ∧ ah.length ≤ 1000 ∧ rg.length ≤ 1000 ∧
  ∀ H' : Hp, Same H H' → Q (.str (Txt.join " " (walkTs ah rg))) H'
theorem txts_len : ∀ (l : List Nat), (∀ i ∈ l, i ≤ 500) → ((txts l).map (·.length)).sum ≤ 5 * l.length
  | [], _ => Nat.zero_le _
  | a :: l, h => by
    have z := txts_len l fun i hi => h i (List.mem_cons_of_mem _ hi)
    have y := numT_len a (h a List.mem_cons_self)
    unfold txts at z ⊢
    rw [List.map_cons, List.map_cons, List.sum_cons, List.length_cons]
    omega
theorem walkTs_len (ah rg : List Nat) (h1 : ∀ i ∈ ah, i ≤ 500) (h2 : ∀ i ∈ rg, i ≤ 500) (l1 : ah.length ≤ 1000) (l2 : rg.length ≤ 1000) : ((walkTs ah rg).map (·.length)).sum + (walkTs ah rg).length * (" " : Str).length ≤ 16777216 := by
  have a1 := txts_len ah h1
  have a2 := txts_len rg h2
  have c1 : (" " : Str).length = 1 := by decide +kernel
  have c2 : ("|" : Str).length = 1 := by decide +kernel
  have e1 : (txts ah).length = ah.length := by unfold txts; rw [List.length_map]
  have e2 : (txts rg).length = rg.length := by unfold txts; rw [List.length_map]
  unfold walkTs
  rw [List.map_append, List.map_append, List.sum_append, List.sum_append, List.length_append, List.length_append, e1, e2, c1]
  show _ + (("|" : Str).length + 0) + _ + (ah.length + 1 + rg.length) * 1 ≤ _
  rw [c2]
  omega
abbrev nWalkText : List Str := ["ahead", "ring", "arrow"]
theorem boot_strT : bootBuiltins "str" = some (.type "str") := by decide +kernel
end
end KW


set_option Elab.async false
set_option maxRecDepth 100000
set_option maxHeartbeats 2000000
/-! Whether arrows are a row: the program's way and the law's. -/
namespace KW
open PySem PySem.Spec PyProof.Rows L2
abbrev sIsRow : Stmt := inClass sWebClass 14
abbrev sLIsRow : Stmt := topS 56
/-- all is well at each place -/
def RowOk (ps : List (Nat × Nat)) (r : List Int) : Prop := ∀ k, k < r.length → okAt ps r k
def spIsRow (K : PySem.W.Frag) (C : Addr) : Sp := fun vs H Q _ => ∃ (x a : Addr) (n : Nat) (ps : List (Nat × Nat)) (r : List Int), vs = [.ref x, .ref a] ∧ WebAt C H x n ps ∧ (SqL K H a (r.map V.int) ∨ SqT K H a (r.map V.int)) ∧
  ∀ (H' : Hp) (b : Bool), Same H H' → (b = true ↔ RowOk ps r) → Q (.bl b) H'
def spLIsRow (K : PySem.W.Frag) : Sp := fun vs H Q _ => ∃ (t a : Addr) (n : Nat) (ps : List (Nat × Nat)) (r : List Int), vs = [.ref t, .ref a] ∧ WebT H t n ps ∧ SqL K H a (r.map V.int) ∧ r.length ≤ 1000 ∧
  ∀ (H' : Hp) (b : Bool), Same H H' → (b = true ↔ RowOk ps r) → Q (.bl b) H'
theorem cut_tail (xs : List V) : cutV xs (some 1) none = xs.drop 1 := by
  cases xs with
  | nil => rfl
  | cons x xs =>
    unfold cutV
    simp [HT.sIx]
section
variable {P : Program} {w : World} {K : PySem.W.Frag} {mg : Str → Option Value} {base : Heap}
theorem scIsRow : FnScope ["self", "row"] ["self", "row"] (defScope sIsRow) := ⟨rfl, rfl, rfl, by decide +kernel, rfl, by decide +kernel, by decide +kernel⟩
theorem ok_isRow {f fW C : Addr} {fd fdW : FuncData} (F : Fun K "is_row" "Web.is_row" sIsRow f fd) (T : WebC K C) (GW : FnOk P w K mg base CX0 2 fW fdW ["self", "row"] (spWrong K C)) (bW : Binds K fdW ["self", "row"] []) (mW : Meth K C "wrong_place" fW) (mLen : mg "len" = none) : FnOk P w K mg base CX0 3 f fd ["self", "row"] (spIsRow K C) := by
  refine F.ok scIsRow (fun vs H Q E h => ?_) (fun cdv A outer s H vs Q E hr h => ?_)
  · obtain ⟨x, a, n, ps, r, rfl, _⟩ := h
    rfl
  · obtain ⟨x, a, n, ps, r, rfl, W, hS, k⟩ := h
    obtain ⟨dx, q, lv, en, as, ls, es, hx, hq, hP, _⟩ := id W
    refine ⟨_, (pss_one (ps_ret (pe_cmpR op_eq (pe_meth (pv 0) T.cl mW GW hr bW .nil pass0 (pa_cons (pv 1) pa_nil)) (pe_callB call_len_seq (by rfl) mLen PySem.boot_len (pa_cons (pv 1) pa_nil)) (nomark _)))), ?_⟩
    refine ⟨_, rfl, x, dx, _, rfl, hx, wf_meth _ _ _ _ (by decide +kernel), _, rfl, x, a, n, ps, r, rfl, W, hS, fun H1 j s1 hj ok bad => ?_⟩
    refine ⟨_, rfl, a, r.map V.int, rfl, hS.elim (fun z => .inl (s1.seq z)) (fun z => .inr (sqT_kp (Same.kp s1) z)), rfl, k H1 _ s1 ?_⟩
    rw [List.length_map, decide_eq_true_eq]
    refine ⟨fun e i hi => ok i ?_, fun all => ?_⟩
    · injection e with e
      omega
    · by_cases z : j < r.length
      · exact absurd (all j z) (bad z)
      · exact congrArg V.int (by omega)
abbrev nLIsRow : List Str := ["_law_w", "_law_row", "_law_one", "_law_other", "_law_arrow"]
theorem scLIsRow : FnScope nLIsRow ["_law_w", "_law_row"] (defScope sLIsRow) := ⟨rfl, rfl, rfl, by decide +kernel, rfl, by decide +kernel, by decide +kernel⟩
theorem ok_lisrow {f : Addr} {fd : FuncData} (F : Fun K "_law_is_row" "_law_is_row" sLIsRow f fd) (mLen : mg "len" = none) (mAll : mg "all" = none) (mZip : mg "zip" = none) : FnOk P w K mg base CX0 1 f fd ["_law_w", "_law_row"] (spLIsRow K) := by
  refine F.ok scLIsRow (fun vs H Q E h => ?_) (fun cdv A outer s H vs Q E hr h => ?_)
  · obtain ⟨t, a, n, ps, r, rfl, _⟩ := h
    rfl
  · obtain ⟨t, a, n, ps, r, rfl, W, hS, hl, k⟩ := h
    obtain ⟨q, as, ht, hq, hP, hG⟩ := id W
    refine ⟨_, (pss_cons (ps_if (pt_not (pt_val (pe_callB (cr_all rfl) (by rfl) mAll (by decide +kernel) (pa_cons (pe_lc (own := [("_law_arrow", 4)]) (g := (gName 4)) (tt := tYes) rfl scLIsRow.nd (pi_list (pv 1)) (blkOk_by (own := [("_law_arrow", 4)]) (N := nLIsRow) (sc := defScope sLIsRow) (by decide +kernel)) (fun _ _ _ _ _ => (pg_name (i := 4) scLIsRow.nd rfl (Or.inl rfl))) (fun _ _ _ _ _ => pts_nil) (fun _ _ _ _ _ => (pe_chain op_le op_lt pe_int (pv 4) (pe_callB (len_seqK (K := K) rfl) (by rfl) mLen PySem.boot_len (pa_cons (pe_ix (ix_tupK (K := K) rfl) (pv 0) pe_int (fun _ _ => rfl)) pa_nil))))) pa_nil))))
       (pss_one (ps_ret pe_bl))
       pss_nil)
       (pss_one (ps_ret (pe_callB (cr_all rfl) (by rfl) mAll (by decide +kernel) (pa_cons (pe_lc (own := [("_law_one", 2), ("_law_other", 3)]) (g := (gTup K 2 (gCons (gName 2) (gCons (gName 3) gNil)))) (tt := tYes) rfl scLIsRow.nd (pi_zip (by rfl) mZip (pa_cons (pv 1) (pa_cons (pe_slice sl_list (pv 1) (po_some pe_int) po_none) pa_nil))) (blkOk_by (own := [("_law_one", 2), ("_law_other", 3)]) (N := nLIsRow) (sc := defScope sLIsRow) (by decide +kernel)) (fun _ _ _ _ _ => (pg_tup rfl (pgs_cons (pg_name (i := 2) scLIsRow.nd rfl (Or.inl rfl)) (pgs_cons (pg_name (i := 3) scLIsRow.nd rfl (Or.inl rfl)) pgs_nil)))) (fun _ _ _ _ _ => pts_nil) (fun _ _ _ _ _ => (pe_cmpR op_eq (pe_ix (ix_tupK (K := K) rfl) (pe_ix (ix_tupK (K := K) rfl) (pe_ix (ix_tupK (K := K) rfl) (pv 0) pe_int (fun _ _ => rfl)) (pv 2) (fun _ _ => rfl)) pe_int (fun _ _ => rfl)) (pe_ix (ix_tupK (K := K) rfl) (pe_ix (ix_tupK (K := K) rfl) (pe_ix (ix_tupK (K := K) rfl) (pv 0) pe_int (fun _ _ => rfl)) (pv 3) (fun _ _ => rfl)) pe_int (fun _ _ => rfl)) (nomark _)))) pa_nil))))), ?_⟩
    have hal : as.length = ps.length := Paired.length hP
    -- all of them arrows
    refine ⟨_, rfl, a, rfl, ⟨_, hS⟩, fun D hD => ?_⟩
    refine lc_list (K := K) (a := a) (xs := r.map V.int) (fun j H' => H' D = some (.lst (((r.take j).map fun t => decide (0 ≤ t) && decide (t < (ps.length : Int))).map V.bl)) ∧ Same H H')
      ⟨upd_same, same_new (Same.refl H) hD⟩ (fun j H' _ ⟨_, s'⟩ => s'.seq hS) ?_ ?_
    · rintro j y H4 hy ⟨hD', s4⟩
      obtain ⟨u, hu, rfl⟩ : ∃ u, r[j]? = some u ∧ y = .int u := by
        rw [List.getElem?_map] at hy
        cases q : r[j]? with
        | none => rw [q] at hy; cases hy
        | some u => rw [q] at hy; exact ⟨u, rfl, (Option.some.inj hy).symm⟩
      have small : (((r.take j).map fun t => decide (0 ≤ t) && decide (t < (ps.length : Int))).map V.bl).length < sizeLine := by
        rw [sizeLine_eq, List.length_map, List.length_map]
        have := List.length_take_le' j r
        omega
      have next : ∀ b : Bool, (decide (0 ≤ u) && decide (u < (ps.length : Int))) = b → upd H4 D (.lst (((r.take j).map fun t => decide (0 ≤ t) && decide (t < (ps.length : Int))).map V.bl ++ [.bl b])) D = some (.lst (((r.take (j + 1)).map fun t => decide (0 ≤ t) && decide (t < (ps.length : Int))).map V.bl)) := fun b hb => by
        rw [upd_same, take_snoc hu, List.map_append, List.map_append, ← hb]
        rfl
      refine ⟨rfl, _, rfl, _, _, rfl, rfl, ?_⟩
      by_cases x0 : 0 ≤ u
      · refine ⟨true, congrArg V.bl (decide_eq_true x0), iteT ⟨_, rfl, t, _, _, _, rfl, rfl, SqT.of (s4 _ _ ht), rfl, q, _, rfl, .inr ((Same.kp s4).f hq).sq, _, _, rfl, rfl, _, hD', small, next _ (by rw [decide_eq_true x0, hal]; rfl), same_put s4 hD⟩⟩
      · exact ⟨false, congrArg V.bl (decide_eq_false x0), iteF ⟨_, hD', small, next _ (by rw [decide_eq_false x0]; rfl), same_put s4 hD⟩⟩
    rintro H1 ⟨hD1, s1⟩
    rw [List.length_map, List.take_length] at hD1
    refine ⟨D, _, rfl, SqL.of hD1, ?_⟩
    cases ha : ((r.map fun t => decide (0 ≤ t) && decide (t < (ps.length : Int))).all id) with
    | false =>
      refine ⟨false, rfl, iteT (k H1 false s1 ⟨fun z => Bool.noConfusion z, fun all => ?_⟩)⟩
      have z : ((r.map fun t => decide (0 ≤ t) && decide (t < (ps.length : Int))).all id) = true := by
        rw [List.all_map, List.all_eq_true]
        intro u hu
        obtain ⟨j, hj, e⟩ := List.mem_iff_getElem.mp hu
        have y := (all j hj).1
        rw [List.getD_eq_getElem?_getD, List.getElem?_eq_getElem hj, Option.getD_some, e] at y
        show (decide (0 ≤ u) && decide (u < (ps.length : Int))) = true
        rw [decide_eq_true y.1, decide_eq_true y.2]
        rfl
      rw [z] at ha
      cases ha
    | true =>
    have inn : ∀ j, j < r.length → 0 ≤ r.getD j 0 ∧ r.getD j 0 < ps.length := fun j hj => by
      rw [List.all_map, List.all_eq_true] at ha
      have z := ha _ (List.getElem_mem hj)
      have z : (decide (0 ≤ r[j]) && decide (r[j] < (ps.length : Int))) = true := z
      rw [Bool.and_eq_true, decide_eq_true_eq, decide_eq_true_eq] at z
      rw [List.getD_eq_getElem?_getD, List.getElem?_eq_getElem hj]
      exact z
    refine ⟨true, rfl, iteF ?_⟩
    -- each behind the one ahead
    refine ⟨_, rfl, _, rfl, _, rfl, a, _, rfl, s1.seq hS, fun p hp => ?_⟩
    have s2 : Same H1 (upd H1 p (.lst (cutV (r.map V.int) (some 1) none))) := same_new (Same.refl H1) hp
    have hp2 : upd H1 p (.lst (cutV (r.map V.int) (some 1) none)) p = some (.lst ((r.map V.int).drop 1)) := by rw [upd_same, cut_tail]
    generalize upd H1 p (.lst (cutV (r.map V.int) (some 1) none)) = H2 at s2 hp2
    have hS2 : SqL K H2 a (r.map V.int) := (s1.trans s2).seq hS
    refine ⟨a, p, _, _, rfl, hS2, SqL.of hp2, fun D2 hD2 => ?_⟩
    have en : r.length - 1 = min (r.map V.int).length ((r.map V.int).drop 1).length := by
      rw [List.length_drop, List.length_map]
      omega
    refine lc_it (walk_zip (K := K) (a := a) (b := p) (xs := r.map V.int) (ys := (r.map V.int).drop 1) en) (fun i H' => H' D2 = some (.lst (((List.range i).map fun j => decide ((ps.getD (r.getD j 0).toNat (0, 0)).2 = (ps.getD (r.getD (j + 1) 0).toNat (0, 0)).1)).map V.bl)) ∧ Same H2 H')
      ⟨upd_same, same_new (Same.refl H2) hD2⟩ (fun i H' _ ⟨_, s'⟩ => ⟨s'.seq hS2, SqL.of (s' _ _ hp2)⟩) ?_ ?_
    · rintro i v H' H3 hi ⟨hB, s'⟩ ⟨U, x1, y1, rfl, hU, rfl, e1, e2⟩
      have gi : ∀ {j : Nat}, j < r.length → (r.map V.int)[j]? = some (.int (((r.getD j 0).toNat : Nat) : Int)) := fun {j} hj => by
        have z := (inn j hj).1
        rw [show (((r.getD j 0).toNat : Nat) : Int) = r.getD j 0 by omega, List.getElem?_map, List.getD_eq_getElem?_getD, List.getElem?_eq_getElem hj]
        rfl
      have e1 : (r.map V.int)[i]? = some x1 := e1
      rw [gi (by omega)] at e1
      have e1 := Option.some.inj e1
      subst e1
      have e2 : ((r.map V.int).drop 1)[i]? = some y1 := e2
      rw [List.getElem?_drop, show 1 + i = i + 1 by omega, gi (by omega)] at e2
      have e2 := Option.some.inj e2
      subst e2
      have l1 : (r.getD i 0).toNat < ps.length := by have := inn i (by omega); omega
      have l2 : (r.getD (i + 1) 0).toNat < ps.length := by have := inn (i + 1) (by omega); omega
      have s3 : Same H2 (upd H' U (.tup [.int (((r.getD i 0).toNat : Nat) : Int), .int (((r.getD (i + 1) 0).toNat : Nat) : Int)])) := same_new s' hU
      have hU3 : upd H' U (.tup [.int (((r.getD i 0).toNat : Nat) : Int), .int (((r.getD (i + 1) 0).toNat : Nat) : Int)]) U = some (.tup [.int (((r.getD i 0).toNat : Nat) : Int), .int (((r.getD (i + 1) 0).toNat : Nat) : Int)]) := upd_same
      have hB3 : upd H' U (.tup [.int (((r.getD i 0).toNat : Nat) : Int), .int (((r.getD (i + 1) 0).toNat : Nat) : Int)]) D2 = some (.lst (((List.range i).map fun j => decide ((ps.getD (r.getD j 0).toNat (0, 0)).2 = (ps.getD (r.getD (j + 1) 0).toNat (0, 0)).1)).map V.bl)) := by rw [upd_ne (ne_of_none hB hU)]; exact hB
      generalize upd H' U (.tup [.int (((r.getD i 0).toNat : Nat) : Int), .int (((r.getD (i + 1) 0).toNat : Nat) : Int)]) = H4 at s3 hU3 hB3
      have t4 : Same H H4 := (s1.trans s2).trans s3
      obtain ⟨c1, hc1, hcp1⟩ := pair_at hP (ps_at l1)
      obtain ⟨c2, hc2, hcp2⟩ := pair_at hP (ps_at l2)
      refine ⟨U, _, rfl, SqT.of hU3, rfl, _, _, rfl, _, _, rfl, rfl, rfl, _, rfl, t, _, _, _, rfl, rfl, SqT.of (t4 _ _ ht), rfl, _, rfl, q, _, _, _, rfl, rfl, ((Same.kp t4).f hq).sq, atI_nat hc1, c1, _, _, _, rfl, rfl, SqT.of (t4 _ _ hcp1), rfl,
        _, rfl, t, _, _, _, rfl, rfl, SqT.of (t4 _ _ ht), rfl, _, rfl, q, _, _, _, rfl, rfl, ((Same.kp t4).f hq).sq, atI_nat hc2, c2, _, _, _, rfl, rfl, SqT.of (t4 _ _ hcp2), rfl, rfl, _, hB3, ?_, ?_, same_put s3 hD2⟩
      · rw [sizeLine_eq, List.length_map, List.length_map, List.length_range]
        omega
      · rw [upd_same, List.range_succ, List.map_append, List.map_append]
        exact congrArg (fun b => some (HO.lst (_ ++ [V.bl b]))) (dec_nat _ _)
    · rintro H3 ⟨hB, s3⟩
      refine ⟨D2, _, rfl, SqL.of hB, k H3 _ ((s1.trans s2).trans s3) ?_⟩
      rw [List.all_map, List.all_eq_true]
      refine ⟨fun z j hj => ⟨inn j hj, fun h0 => ?_⟩, fun all j hj => ?_⟩
      · have y := z (j - 1) (List.mem_range.mpr (by omega))
        have y := of_decide_eq_true (show decide _ = true from y)
        rw [show j - 1 + 1 = j by omega] at y
        exact y.symm
      · have hj := List.mem_range.mp hj
        have y := (all (j + 1) (by omega)).2 (by omega)
        rw [show j + 1 - 1 = j by omega] at y
        exact decide_eq_true y.symm
end
end KW


set_option Elab.async false
set_option maxRecDepth 100000
set_option maxHeartbeats 4000000
/-! The law. -/
namespace KW
open PySem PySem.Spec PyProof.Rows L2 LamX
abbrev sLaw : Stmt := topS 58
abbrev nLaw : List Str := ["_law_script", "_law_turn", "_law_w", "_law_many_here", "_law_told_here", "_law_long_one", "_law_asks", "_law_row", "_law_bag_here", "_law_length", "_law_odd", "_law_size", "_law_web_here"]
theorem scLaw : FnScope nLaw ["_law_script"] (defScope sLaw) := ⟨rfl, rfl, rfl, by decide +kernel, rfl, by decide +kernel, by decide +kernel⟩
def spLaw (K : PySem.W.Frag) (Pt : Addr) : Sp := fun vs H Q _ => ∃ (a : Addr) (ns : List Int), vs = [.ref a] ∧ SqL K H a (ns.map V.int) ∧ H Pt = some (.tbl #[]) ∧ ∀ H', Q (.bl true) H'
theorem nums_dp {K : PySem.W.Frag} {H : Hp} : ∀ r : List Nat, DpAll K H (nums r) (r.map fun i : Nat => PyData.int i)
  | [] => .nil
  | i :: r => .cons (.int _) (nums_dp r)
theorem rows_dp {K : PySem.W.Frag} {H : Hp} : ∀ {vs : List V} {ls : List (List Nat)}, RowsIn H vs ls → DpAll K H vs (ls.map fun r => PyData.tuple (r.map fun i : Nat => PyData.int i))
  | _, _, .nil => .nil
  | _, _, .cons ⟨a, e, h⟩ r => by
    subst e
    exact .cons (.tup (SqT.of h) (nums_dp _)) (rows_dp r)
theorem rows_okT {ls : List (List Nat)} (h1 : ls.length ≤ 1000) (h2 : ∀ r ∈ ls, r.length ≤ 1000) : okT 2 (.list (ls.map fun r => PyData.tuple (r.map fun i : Nat => PyData.int i))) := by
  refine .inr ⟨_, .inl rfl, by rw [List.length_map]; exact h1, fun x hx => ?_⟩
  obtain ⟨r, hr, rfl⟩ := List.mem_map.mp hx
  refine .inr ⟨_, .inr rfl, by rw [List.length_map]; exact h2 r hr, fun y hy => ?_⟩
  obtain ⟨i, _, rfl⟩ := List.mem_map.mp hy
  exact .inl ⟨_, rfl⟩
theorem CoreT.put {C b l t x : Addr} {T : List (Addr × Str)} {ms : List Int} {n : Nat} {ps : List (Nat × Nat)} {H : Hp} (c : CoreT C b l t x T ms n ps H) {p : Addr} {us : List V} {o : HO} (hp : H p = some (.lst us)) (n1 : b ≠ p) (n2 : l ≠ p) : CoreT C b l t x T ms n ps (upd H p o) := c.nl (NL.put hp) (c.bag.other n1 n2)
theorem rep_pairs {K : PySem.W.Frag} {H : Hp} {v : Addr} (h : H v = some (.tup [.int 0, .int 0])) : ∀ m : Nat, Paired (PairL K H) (List.replicate m (V.ref v)) (List.replicate m ((0 : Nat), (0 : Nat)))
  | 0 => .nil
  | m + 1 => .cons ⟨v, rfl, .inr (SqT.of h)⟩ (rep_pairs h m)
theorem rose_rows : (rowsF (List.replicate 23 (0, 0)) 1).length = 529 ∧ (rowsF (List.replicate 24 (0, 0)) 1).length = 576 ∧ (rowsF (List.replicate 25 (0, 0)) 1).length = 625 := by decide +kernel
structure Defs (P : Program) (w : World) (K : PySem.W.Frag) (mg : Str → Option Value) (base : Heap) (C CB CT CL CF : Addr) (Cs : Nat → Addr) : Prop where
  T : WebC K C
  range : mg "range" = none
  len : mg "len" = none
  list : mg "list" = none
  tuple : mg "tuple" = none
  int : mg "int" = none
  mC : mg "Web" = some (.ref C)
  tm : ToldM K mg Cs CL CF
  kb : KindOf K Cs CB "BadWindow"
  tb : ToldOf K Cs CL CF CB 7
  km : KindOf K Cs CT "TooMany"
  tt : ToldOf K Cs CL CF CT 3
  nm : PySem.W.findIn K (.ref CT) "most" = some none
  kind : ∃ f fd, FnP P w K mg base CX0 1 f fd ["_law_e"] (spKind K Cs) ∧ Binds K fd ["_law_e"] [] ∧ mg "_law_kind" = some (.ref f) ∧ PySem.W.keepIn K (.ref f) = true
  told : ∃ f fd, Fun K "_law_told" "_law_told" sTold f fd ∧ Binds K fd ["_law_ask"] [] ∧ mg "_law_told" = some (.ref f) ∧ PySem.W.keepIn K (.ref f) = true
  bag : ∃ f fd, FnOk P w K mg base CX0 1 f fd ["_law_script"] (spBag K) ∧ Binds K fd ["_law_script"] [] ∧ mg "_law_bag" = some (.ref f) ∧ PySem.W.keepIn K (.ref f) = true
  pull : ∃ f fd, FnOk P w K mg base CX0 1 f fd ["_law_bag_here", "_law_many_here"] spPull ∧ Binds K fd ["_law_bag_here", "_law_many_here"] [] ∧ mg "_law_pull" = some (.ref f) ∧ PySem.W.keepIn K (.ref f) = true
  of_ : ∃ f fd, FnOk P w K mg base CX0 2 f fd ["_law_bag_here", "_law_some"] (spOf K) ∧ Binds K fd ["_law_bag_here", "_law_some"] [] ∧ mg "_law_of" = some (.ref f) ∧ PySem.W.keepIn K (.ref f) = true
  far : ∃ f fd, FnOk P w K mg base CX0 3 f fd ["_law_bag_here"] spFar ∧ Binds K fd ["_law_bag_here"] [] ∧ mg "_law_far" = some (.ref f) ∧ PySem.W.keepIn K (.ref f) = true
  web : ∃ f fd, FnOk P w K mg base CX0 3 f fd ["_law_bag_here", "_law_rooms_most", "_law_more_most"] spWeb ∧ Binds K fd ["_law_bag_here", "_law_rooms_most", "_law_more_most"] [] ∧ mg "_law_web" = some (.ref f) ∧ PySem.W.keepIn K (.ref f) = true
  made : ∃ f fd, FnOk P w K mg base CX0 5 f fd ["_law_w"] (spMade C) ∧ Binds K fd ["_law_w"] [] ∧ mg "_law_made" = some (.ref f) ∧ PySem.W.keepIn K (.ref f) = true
  same : ∃ f fd, FnOk P w K mg base CX0 3 f fd ["_law_found", "_law_due"] (spSame K 2) ∧ Binds K fd ["_law_found", "_law_due"] [] ∧ mg "_law_same" = some (.ref f) ∧ PySem.W.keepIn K (.ref f) = true
  lmany : ∃ f fd, FnOk P w K mg base CX0 2 f fd ["_law_w", "_law_length"] spLMany ∧ Binds K fd ["_law_w", "_law_length"] [] ∧ mg "_law_many" = some (.ref f) ∧ PySem.W.keepIn K (.ref f) = true
  lrows : ∃ f fd, FnOk P w K mg base CX0 3 f fd ["_law_w", "_law_length"] spLRows ∧ Binds K fd ["_law_w", "_law_length"] [] ∧ mg "_law_rows" = some (.ref f) ∧ PySem.W.keepIn K (.ref f) = true
  lisrow : ∃ f fd, FnOk P w K mg base CX0 1 f fd ["_law_w", "_law_row"] (spLIsRow K) ∧ Binds K fd ["_law_w", "_law_row"] [] ∧ mg "_law_is_row" = some (.ref f) ∧ PySem.W.keepIn K (.ref f) = true
  walk : ∃ f fd, FnOk P w K mg base CX0 3 f fd ["_law_bag_here", "_law_w"] spLWalk ∧ Binds K fd ["_law_bag_here", "_law_w"] [] ∧ mg "_law_walk" = some (.ref f) ∧ PySem.W.keepIn K (.ref f) = true
  init : ∃ f fd, FnOk P w K mg base CX0 3 f fd ["self", "rooms", "arrows"] (spInit K C) ∧ Binds K fd ["self", "rooms", "arrows"] [] ∧ Mk K C f
  many : ∃ f fd, FnOk P w K mg base (CN P w) 4 f fd ["self", "length"] (spManyR C CB) ∧ Binds K fd ["self", "length"] [] ∧ Meth K C "many" f
  rows : ∃ f fd, FnOk P w K mg base (CN P w) 5 f fd ["self", "length"] (spRowsR C CB CT) ∧ Binds K fd ["self", "length"] [] ∧ Meth K C "rows" f
  isrow : ∃ f fd, FnOk P w K mg base CX0 3 f fd ["self", "row"] (spIsRow K C) ∧ Binds K fd ["self", "row"] [] ∧ Meth K C "is_row" f
section
variable {P : Program} {w : World} {K : PySem.W.Frag} {mg : Str → Option Value} {base : Heap}
set_option maxHeartbeats 40000000 in
theorem ok_law {f C CB CT CL CF c Pt : Addr} {Cs : Nat → Addr} {dV kV doc pm ct oc : Value} {an od : Option Addr} {osl : Array (Option Value)} (lk : K.lookup f = some ⟨oc, od, .func (PySem.W.fnOf "law" "law" (defArgs sLaw) (defBody sLaw) (defScope sLaw) dV kV doc pm an (.ref c) ct), osl⟩) (hcd : PySem.W.codeIn K (.ref c) "law" = true)
    (Z : Defs P w K mg base C CB CT CL CF Cs) (TB : TabB base mg c Pt) : FnOk P w K mg base CX0 8 f (PySem.W.fnOf "law" "law" (defArgs sLaw) (defBody sLaw) (defScope sLaw) dV kV doc pm an (.ref c) ct) ["_law_script"] (spLaw K Pt) := by
  refine fn_of lk hcd scLaw (fun vs H Q E h => ?_) (fun A outer s H vs Q E hr h => ?_)
  · obtain ⟨a, ns, rfl, _⟩ := h
    rfl
  · obtain ⟨a, ns, rfl, hS, hPt, kk⟩ := h
    have T := Z.T
    obtain ⟨fK, fdK, GK, bK, mK, kK⟩ := Z.kind
    obtain ⟨fT, fdT, FT, bT, mT, kT⟩ := Z.told
    obtain ⟨ocT, odT, kVT, docT, pmT, anT, cdT, ctT, slT, rfl, lookT, codeT⟩ := FT.ex
    obtain ⟨fB, fdB, GB, bB, mB, kB⟩ := Z.bag
    obtain ⟨fP, fdP, GP, bP, mP, kP⟩ := Z.pull
    obtain ⟨fO, fdO, GO, bO, mO, kO⟩ := Z.of_
    obtain ⟨fF, fdF, GF, bF, mF, kF⟩ := Z.far
    obtain ⟨fW, fdW, GW, bW, mW, kW⟩ := Z.web
    obtain ⟨fM, fdM, GM, bM, mM, kM⟩ := Z.made
    obtain ⟨fS, fdS, GS, bS, mS, kS⟩ := Z.same
    obtain ⟨f2, fd2, G2, b2, m2, k2⟩ := Z.lmany
    obtain ⟨f3, fd3, G3, b3, m3, k3⟩ := Z.lrows
    obtain ⟨f4, fd4, G4, b4, m4, k4⟩ := Z.lisrow
    obtain ⟨fL, fdL, GL, bL, mL, kL⟩ := Z.walk
    obtain ⟨fI, fdI, GI, bI, MI⟩ := Z.init
    obtain ⟨f5, fd5, G5, b5, m5⟩ := Z.many
    obtain ⟨f6, fd6, G6, b6, m6⟩ := Z.rows
    obtain ⟨f7, fd7, G7, b7, m7⟩ := Z.isrow
    have hr1 : Room 1 _ := hr.mono (by decide)
    have hr2 : Room 2 _ := hr.mono (by decide)
    have hr3 : Room 3 _ := hr.mono (by decide)
    have hr4 : Room 4 _ := hr.mono (by decide)
    have hr5 : Room 5 _ := hr.mono (by decide)
    generalize hlq : (cxOf CX0 P w K mg base nLaw "law" (defScope sLaw) f (.ref c) A outer s H E).env.qual ++ "<lambda>" = lq
    refine ⟨_, PSs.nox (pss_cons (ps_set (i := 8) scLaw.nd rfl (Or.inr rfl) (pe_call GB hr1 rfl mB kB bB .nil pass0 (pa_cons (pv 0) pa_nil)))
 (pss_cons (ps_for PassesOwn.never rfl (pi_range1 (by rfl) Z.range (pa_cons pe_int pa_nil)) (pg_name (i := 1) scLaw.nd rfl (Or.inl rfl))
 (pss_cons (ps_set (i := 2) scLaw.nd rfl (Or.inl rfl) (pe_call GW hr3 rfl mW kW bW .nil pass0 (pa_cons (pv 8) (pa_cons pe_int (pa_cons pe_int pa_nil)))))
 (C8.pss_cut (ps_asg (pe_tup (pa_cons (pe_call GM hr5 rfl mM kM bM .nil pass0 (pa_cons (pv 2) pa_nil)) (pa_cons (pe_op op_add pe_int (pe_call GP hr1 rfl mP kP bP .nil pass0 (pa_cons (pv 8) (pa_cons pe_int pa_nil)))) pa_nil))) (pg_tup rfl (pgs_cons (pg_name (i := 12) scLaw.nd rfl (Or.inr rfl)) (pgs_cons (pg_name (i := 9) scLaw.nd rfl (Or.inr rfl)) pgs_nil))))
 (pss_cons (ps_set (i := 3) scLaw.nd rfl (Or.inl rfl) (pe_call G2 hr2 rfl m2 k2 b2 .nil pass0 (pa_cons (pv 2) (pa_cons (pv 9) pa_nil))))
 (C8.pss_cut (ps_set (i := 4) scLaw.nd rfl (Or.inl rfl) (pe_lamN (T := [(Pt, lq)]) (TT := TToldN K Cs CL CF) (k := 5) (by rfl) mT kT lookT codeT bT scTold rfl (Or.inl rfl) (told_gives Z.tm GK bK mK kK) TB rfl (by rw [← hlq]; exact List.mem_singleton.mpr rfl) (by rw [← hlq]; intro p hp _; rw [List.mem_singleton.mp hp]) (by decide) hr (lamS_by (sc := defScope sLaw) (by decide +kernel)) rfl (fun _ _ _ _ _ => rfl)
 (fun A outer s H E f c' r => (pe_meth (pv 12) T.cl m6 G6 (r.mono (by decide)) b6 .nil lamN_pass (pa_cons (pv 9) pa_nil)))))
 (C8.pss_cut (ps_if (pt_cmpR op_gt (pv 3) pe_int (nomark _))
 (pss_one (ps_if (pt_cmpR (op_neD hr.units) (pv 4) (pe_tup (pa_cons pe_str (pa_cons pe_int pa_nil))) (nomark _)) pss_never pss_nil))
 (pss_one (ps_if (pt_cmpR op_le (pv 3) pe_int (nomark _))
 (pss_cons (ps_if (PW.pt (pw_or (pt_cmpR op_ne (pe_ix ix_tup (pv 4) pe_int (fun _ _ => rfl)) pe_str (nomark _)) (pw_or1 (pt_not (pt_val (pe_call GS hr3 rfl mS kS bS .nil pass0 (pa_cons (pe_ix ix_tup (pv 4) pe_int (fun _ _ => rfl)) (pa_cons (pe_call G3 hr3 rfl m3 k3 b3 .nil pass0 (pa_cons (pv 2) (pa_cons (pv 9) pa_nil))) pa_nil)))))))) pss_never pss_nil)
 (pss_cons (ps_expr (pe_bm0 PySem.F.plainAttrs_list PySem.F.slot_list_clear PySem.F.type_list_clear mt_clear (pe_ix ix_tup (pv 4) pe_int (fun _ _ => rfl))))
 (pss_one (ps_if (pt_not (pt_val (pe_call GS hr3 rfl mS kS bS .nil pass0 (pa_cons (pe_meth (pv 12) T.cl m6 G6 hr5 b6 .nil passNv (pa_cons (pv 9) pa_nil)) (pa_cons (pe_call G3 hr3 rfl m3 k3 b3 .nil pass0 (pa_cons (pv 2) (pa_cons (pv 9) pa_nil))) pa_nil))))) pss_never pss_nil))))
 pss_nil)))
 (pss_cons (ps_set (i := 5) scLaw.nd rfl (Or.inl rfl) (pe_call GP hr1 rfl mP kP bP .nil pass0 (pa_cons (pv 8) (pa_cons pe_int pa_nil))))
 (C8.pss_cut (ps_if (pt_not (pt_val (pe_call GS hr3 rfl mS kS bS .nil pass0 (pa_cons (pe_lst (pa_cons (pe_meth (pv 12) T.cl m5 G5 hr4 b5 .nil passNv (pa_cons (pv 5) pa_nil)) (pa_cons (pe_meth (pv 12) T.cl m5 G5 hr4 b5 .nil passNv (pa_cons (pv 9) pa_nil)) pa_nil))) (pa_cons (pe_lst (pa_cons (pe_call G2 hr2 rfl m2 k2 b2 .nil pass0 (pa_cons (pv 2) (pa_cons (pv 5) pa_nil))) (pa_cons (pv 3) pa_nil))) pa_nil))))) pss_never pss_nil)
 (C8.pss_cut (ps_set (i := 10) scLaw.nd rfl (Or.inr rfl) (pe_call GO hr2 rfl mO kO bO .nil pass0 (pa_cons (pv 8) (pa_cons (pe_lst (pa_cons pe_int (pa_cons (pe_un un_neg pe_int) (pa_cons (pe_call GF hr3 rfl mF kF bF .nil pass0 (pa_cons (pv 8) pa_nil)) pa_nil)))) pa_nil))))
 (C8.pss_cut (ps_set (i := 6) scLaw.nd rfl (Or.inl rfl) (pe_lst (pa_cons (pe_lamN (T := [(Pt, lq)]) (TT := TToldN K Cs CL CF) (k := 5) (by rfl) mT kT lookT codeT bT scTold rfl (Or.inl rfl) (told_gives Z.tm GK bK mK kK) TB rfl (by rw [← hlq]; exact List.mem_singleton.mpr rfl) (by rw [← hlq]; intro p hp _; rw [List.mem_singleton.mp hp]) (by decide) hr (lamS_by (sc := defScope sLaw) (by decide +kernel)) rfl (fun _ _ _ _ _ => rfl)
 (fun A outer s H E f c' r => (pe_meth (pv 12) T.cl m5 G5 (r.mono (by decide)) b5 .nil lamN_pass (pa_cons (pv 10) pa_nil)))) (pa_cons (pe_lamD (y := "_law_k") (T := [(Pt, lq)]) (TT := TToldN K Cs CL CF) (k := 5) (by rfl) mT kT lookT codeT bT scTold rfl (Or.inl rfl) (told_gives Z.tm GK bK mK kK) TB rfl (by rw [← hlq]; exact List.mem_singleton.mpr rfl) (by rw [← hlq]; intro p hp _; rw [List.mem_singleton.mp hp]) (by decide) hr (lamD_by (N := nLaw) (x := "_law_k") (sc := defScope sLaw) (by decide +kernel)) rfl rfl (fun _ _ _ _ _ _ _ _ => ⟨_, rfl, rfl⟩)
 (fun A outer s H E f c' r => (pe_meth (pv 12) T.cl m6 G6 (r.mono (by decide)) b6 .nil lamN_pass (pa_cons (pe_call GO (r.mono (by decide)) rfl mO kO bO .nil pass0 (pa_cons (pv 8) (pa_cons (pe_lst (pa_cons pe_int (pa_cons pe_int (pa_cons (pv 10) pa_nil)))) pa_nil))) pa_nil)))) pa_nil))))
 (C8.pss_cut (ps_if (pt_cmpR (op_neD hr.units) (pv 6) (pe_op op_rep (pe_lst (pa_cons (pe_tup (pa_cons pe_str (pa_cons pe_non pa_nil))) pa_nil)) pe_int) (nomark _)) pss_never pss_nil)
 (C8.pss_cut (ps_set (i := 7) scLaw.nd rfl (Or.inl rfl) (pe_op op_cat (pe_callTy call_list_of (by rfl) Z.list boot_list' (pa_cons (pe_ix ix_tup (pe_call GL hr3 rfl mL kL bL .nil pass0 (pa_cons (pv 8) (pa_cons (pv 2) pa_nil))) pe_int (fun _ _ => rfl)) pa_nil)) (pe_lst (pa_cons (pe_call GP hr1 rfl mP kP bP .nil pass0 (pa_cons (pv 8) (pa_cons (pe_callB call_len_seq (by rfl) Z.len PySem.boot_len (pa_cons (pe_ix ix_tup (pv 2) pe_int (fun _ _ => rfl)) pa_nil)) pa_nil))) pa_nil))))
 (C8.pss_cut (ps_set (i := 7) scLaw.nd rfl (Or.inl rfl) (pe_op op_cat (pv 7) (pe_op op_rep (pe_lst (pa_cons (pe_call GO hr2 rfl mO kO bO .nil pass0 (pa_cons (pv 8) (pa_cons (pe_lst (pa_cons pe_int (pa_cons (pe_callB call_len_seq (by rfl) Z.len PySem.boot_len (pa_cons (pe_ix ix_tup (pv 2) pe_int (fun _ _ => rfl)) pa_nil)) (pa_cons (pe_un un_neg pe_int) pa_nil)))) pa_nil))) pa_nil)) (pe_callTy call_int1 (by rfl) Z.int boot_int' (pa_cons (pe_cmpR op_eq (pe_call GP hr1 rfl mP kP bP .nil pass0 (pa_cons (pv 8) (pa_cons pe_int pa_nil))) pe_int (nomark _)) pa_nil)))))
 (pss_one (ps_if (pt_not (pt_val (pe_call GS hr3 rfl mS kS bS .nil pass0 (pa_cons (pe_lst (pa_cons (pe_meth (pv 12) T.cl m7 G7 hr3 b7 .nil pass0 (pa_cons (pv 7) pa_nil)) (pa_cons (pe_meth (pv 12) T.cl m7 G7 hr3 b7 .nil pass0 (pa_cons (pe_callTy call_tuple_of (by rfl) Z.tuple boot_tuple' (pa_cons (pv 7) pa_nil)) pa_nil)) (pa_cons (pe_meth (pv 12) T.cl m7 G7 hr3 b7 .nil pass0 (pa_cons (pe_lst pa_nil) pa_nil)) pa_nil)))) (pa_cons (pe_lst (pa_cons (pe_call G4 hr1 rfl m4 k4 b4 .nil pass0 (pa_cons (pv 2) (pa_cons (pv 7) pa_nil))) (pa_cons (pe_call G4 hr1 rfl m4 k4 b4 .nil pass0 (pa_cons (pv 2) (pa_cons (pv 7) pa_nil))) (pa_cons pe_bl pa_nil)))) pa_nil))))) pss_never pss_nil)))))))))))))))
 (pss_cons (ps_set (i := 11) scLaw.nd rfl (Or.inr rfl) (pe_op op_add pe_int (pe_call GP hr1 rfl mP kP bP .nil pass0 (pa_cons (pv 8) (pa_cons pe_int pa_nil)))))
 (C8.pss_cut (ps_set (i := 4) scLaw.nd rfl (Or.inl rfl) (pe_lamN (T := [(Pt, lq)]) (TT := TToldN K Cs CL CF) (k := 5) (by rfl) mT kT lookT codeT bT scTold rfl (Or.inl rfl) (told_gives Z.tm GK bK mK kK) TB rfl (by rw [← hlq]; exact List.mem_singleton.mpr rfl) (by rw [← hlq]; intro p hp _; rw [List.mem_singleton.mp hp]) (by decide) hr (lamS_by (sc := defScope sLaw) (by decide +kernel)) rfl (fun _ _ _ _ _ => rfl)
 (fun A outer s H E f c' r => (pe_callB (len_seqK (K := K) rfl) (by rfl) Z.len PySem.boot_len (pa_cons (pe_meth (pe_make MI GI (r.mono (by decide)) (by rfl) Z.mC bI .nil pass0 (pa_cons pe_int (pa_cons (pe_op op_rep (pe_lst (pa_cons (pe_tup (pa_cons pe_int (pa_cons pe_int pa_nil))) pa_nil)) (pv 11)) pa_nil))) T.cl m6 G6 (r.mono (by decide)) b6 .nil lamN_pass (pa_cons pe_int pa_nil)) pa_nil)))))
 (pss_one (ps_ret (pe_cmpR (op_eqD hr.units) (pv 4) (pe_ifExp (pt_cmpR op_lt (pv 11) pe_int (nomark _)) (pe_tup (pa_cons pe_str (pa_cons (pe_op op_mul (pv 11) (pv 11)) pa_nil))) (pe_tup (pa_cons pe_str (pa_cons pe_int pa_nil)))) (nomark _)))))))), ?_⟩
    refine ⟨_, rfl, a, ns, rfl, hS, fun H1 b l s1 nb nl B1 => ?_⟩
    generalize hns : ns.take 63 = ms at B1
    have T0 : Tabs [(Pt, lq)] H1 := fun p hp => by
      rw [List.mem_singleton.mp hp]
      exact TabS.nil (s1 _ _ hPt)
    refine ⟨_, rfl, by decide, by decide, for_range (lo := 0) (n := 4) (fun _ σ H' => (∃ v1 v2 v3 v4 v5 v6 v7 v9 v10 v11 v12 : Option V, σ = [some (.ref a), v1, v2, v3, v4, v5, v6, v7, some (.ref b), v9, v10, v11, v12]) ∧ BagAt b l ms H' ∧ Tabs [(Pt, lq)] H')
      ⟨⟨none, none, none, none, none, none, none, none, none, none, none, rfl⟩, B1, T0⟩ ?_ ?_⟩
    · rintro i0 σ H2 hi0 ⟨⟨v1, v2, v3, v4, v5, v6, v7, v9, v10, v11, v12, rfl⟩, B2, T2⟩
      refine ⟨_, rfl, b, l, ms, 4, 5, rfl, B2, by decide, by decide, by decide, fun H3 t n ps Gr3 W3 hn hp B3 => ?_⟩
      obtain ⟨xb2, hb2⟩ := B2.list
      have T3 := tabs_nl (NL.grow hb2 Gr3) T2
      have hG : Good n ps := by
        obtain ⟨_, _, _, _, _, hG⟩ := W3
        exact hG
      -- the web and a length
      refine ⟨fun σ H' => ∃ (x : Addr) (v1 v3 v4 v5 v6 v7 v10 v11 : Option V) (kz : Int), σ = [some (.ref a), v1, some (.ref t), v3, v4, v5, v6, v7, some (.ref b), some (.int kz), v10, v11, some (.ref x)] ∧ 1 ≤ kz ∧ kz ≤ 6 ∧ CoreT C b l t x [(Pt, lq)] ms n ps H', ?_, ?_⟩
      · refine ⟨_, rfl, t, n, ps, rfl, W3, by omega, by omega, fun H4 x hW4 s4 nx => ?_⟩
        have c4 : CoreT C b l t x [(Pt, lq)] ms n ps H4 := ⟨bag_ext B3 (ExtN.of s4), tabs_nl (.same s4) T3, W3.kp (Same.kp s4), hW4⟩
        obtain ⟨xb4, hb4⟩ := c4.bag.list
        refine ⟨_, rfl, b, l, ms, _, rfl, c4.bag, by decide, by decide, fun H5 r r0 r1 O5 B5 => ⟨_, _, rfl, rfl, by show 2 ≤ sizeLine; decide, fun U hU => ⟨U, _, rfl, SqT.of upd_same, rfl, _, _, rfl, _, _, rfl, rfl, ?_⟩⟩⟩
        exact ⟨x, _, _, _, _, _, _, _, _, 1 + r, rfl, by omega, by omega, (c4.nl (NL.grow hb4 O5.grow) B5).same (same_new (Same.refl H5) hU)⟩
      clear T3 B3 Gr3 T2 B2 hb2 xb2 W3
      rintro σ H4 ⟨x, u1, u3, u4, u5, u6, u7, u10, u11, kz, rfl, kz1, kz2, c4⟩
      obtain ⟨k, rfl⟩ : ∃ k : Nat, kz = ((k + 1 : Nat) : Int) := ⟨(kz - 1).toNat, by omega⟩
      have hk : k + 1 ≤ 6 := by omega
      -- how many rows, and the rows as they are told
      refine ⟨_, rfl, _, rfl, t, n, ps, k + 1, rfl, c4.wt, by omega, by omega, by omega, fun H5 s5 => ?_⟩
      have c5 := c4.same s5
      rw [cnt_rows hG.2.1]
      clear c4 s5
      refine ⟨fun σ H' => ∃ (U : Addr) (v1 v5 v6 v7 v10 v11 : Option V), σ = [some (.ref a), v1, some (.ref t), some (.int (((rowsF ps k).length : Nat) : Int)), some (.ref U), v5, v6, v7, some (.ref b), some (.int ((k + 1 : Nat) : Int)), v10, v11, some (.ref x)] ∧ CoreT C b l t x [(Pt, lq)] ms n ps H' ∧
        ((600 < (rowsF ps k).length ∧ H' U = some (.tup [.str "TooMany", .int 600])) ∨ ((rowsF ps k).length ≤ 600 ∧ ∃ (L : Addr) (vs : List V), H' U = some (.tup [.str "told", .ref L]) ∧ H' L = some (.lst vs) ∧ RowsIn H' vs (rowsF ps k) ∧ b ≠ L ∧ l ≠ L)), ?_, ?_⟩
      · refine ⟨c5.tabs, fun H6 e6 T6 => ?_⟩
        have c6 := c5.ext e6 T6
        obtain ⟨dx1, q1, lv1, en1, as1, ls1, es1, hx1, _⟩ := id c6.wa
        refine ⟨_, rfl, x, dx1, _, rfl, hx1, wf_meth _ _ _ _ (by decide +kernel), _, rfl, x, n, ps, _, rfl, c6.wa, hG, by omega, by omega, fun k' ek h6 few H7 L vs s7 nL hL hR => ?_, fun k' ek h6 lot => ?_, fun z => absurd ⟨by omega, by omega⟩ z⟩
        · obtain rfl : k' = k := by omega
          refine ⟨by show 2 ≤ sizeLine; decide, fun U hU => ⟨U, _, _, _, _, _, _, rfl, (c6.same s7).same (same_new (Same.refl H7) hU), .inr ⟨few, L, vs, upd_same, by rw [upd_ne (ne_of_none hL hU)]; exact hL, RowsIn.kp (Kp.new hU) hR, c6.bag.nb nL, c6.bag.nl nL⟩⟩⟩
        · obtain rfl : k' = k := by omega
          exact told_fld Z.km Z.tt rfl Z.nm fun H7 U s7 nU => ⟨U, _, _, _, _, _, _, rfl, (c6.same s7).same (same_new (Same.refl H7) nU), .inl ⟨lot, upd_same⟩⟩
      clear c5
      rintro σ H5 ⟨U, w1, w5, w6, w7, w10, w11, rfl, c5, told⟩
      -- judged
      refine ⟨fun σ H' => ∃ (v1 v4 v5 v6 v7 v10 v11 : Option V), σ = [some (.ref a), v1, some (.ref t), some (.int (((rowsF ps k).length : Nat) : Int)), v4, v5, v6, v7, some (.ref b), some (.int ((k + 1 : Nat) : Int)), v10, v11, some (.ref x)] ∧ CoreT C b l t x [(Pt, lq)] ms n ps H', ?_, ?_⟩
      · rcases told with ⟨lot, hU⟩ | ⟨few, L, vs, hU, hL, hR, n1, n2⟩
        · refine ⟨_, rfl, _, _, rfl, rfl, true, congrArg V.bl (decide_eq_true (by omega)), iteT ⟨_, rfl, by show 2 ≤ sizeLine; decide, fun V1 hV1 => ?_⟩⟩
          have s1 : Same H5 (upd H5 V1 (.tup [.str "TooMany", .int 600])) := same_new (Same.refl H5) hV1
          refine ⟨.tuple [.str "TooMany", .int 600], .tuple [.str "TooMany", .int 600], .tup (SqT.of (s1 _ _ hU)) (.cons (.str _) (.cons (.int _) .nil)), .tup (SqT.of upd_same) (.cons (.str _) (.cons (.int _) .nil)), by decide +kernel, by decide +kernel, false, rfl, iteF ?_⟩
          exact ⟨_, _, _, _, _, _, _, rfl, c5.same s1⟩
        · refine ⟨_, rfl, _, _, rfl, rfl, false, congrArg V.bl (decide_eq_false (by omega)), iteF ⟨_, rfl, _, _, rfl, rfl, ?_⟩⟩
          by_cases h150 : (((rowsF ps k).length : Nat) : Int) ≤ 150
          case neg => exact ⟨false, congrArg V.bl (decide_eq_false h150), iteF ⟨_, _, _, _, _, _, _, rfl, c5⟩⟩
          have small : ∀ j, j ≤ k → (rowsF ps j).length ≤ 100000 := fun j hj => Nat.le_trans (rowsF_under hG hj) (by omega)
          have okd : okT 2 (.list ((rowsF ps k).map fun r => PyData.tuple (r.map fun i : Nat => PyData.int i))) := rows_okT (by omega) fun r hr => by rw [rowsF_len hr]; omega
          refine ⟨true, congrArg V.bl (decide_eq_true h150), iteT ?_⟩
          refine ⟨_, rfl, U, _, _, _, rfl, rfl, SqT.of hU, rfl, rfl, false, congrArg V.bl (by rw [decide_eq_true rfl]; rfl), iteF ?_⟩
          refine ⟨_, rfl, U, _, _, _, rfl, rfl, SqT.of hU, rfl, _, rfl, _, rfl, t, n, ps, k, rfl, c5.wt, by omega, by omega, small, fun H6 L2 vs2 s6 nL2 hL2 hR2 => ?_⟩
          refine ⟨.ref L, .ref L2, _, rfl, .lst (SqL.of (s6 _ _ hL)) (rows_dp (RowsIn.kp (Same.kp s6) hR)), .lst (SqL.of hL2) (rows_dp hR2), okd, fun H7 s7 => ⟨true, rfl, iteF ?_⟩⟩
          have t7 := s6.trans s7
          have c7 := c5.same t7
          refine ⟨_, rfl, U, _, _, _, rfl, rfl, SqT.of (t7 _ _ hU), rfl, .inl ⟨rfl, _, SqL.of (t7 _ _ hL)⟩, L, vs, rfl, rfl, t7 _ _ hL, ?_⟩
          have c8 := c7.put (o := .lst []) (t7 _ _ hL) n1 n2
          generalize upd H7 L (.lst []) = H8 at c8
          obtain ⟨dx1, q1, lv1, en1, as1, ls1, es1, hx1, _⟩ := id c8.wa
          refine ⟨_, rfl, x, dx1, _, rfl, hx1, wf_meth _ _ _ _ (by decide +kernel), _, rfl, x, n, ps, _, rfl, c8.wa, hG, by omega, by omega, fun k' ek h6 few H9 L3 vs3 s9 nL3 hL3 hR3 => ?_, fun k' ek h6 lot => ?_, fun z => absurd ⟨by omega, by omega⟩ z⟩
          case refine_2 =>
            obtain rfl : k' = k := by omega
            omega
          obtain rfl : k' = k := by omega
          have c9 := c8.same s9
          refine ⟨_, rfl, _, rfl, t, n, ps, k', rfl, c9.wt, by omega, by omega, small, fun H10 L4 vs4 s10 nL4 hL4 hR4 => ?_⟩
          exact ⟨.ref L3, .ref L4, _, rfl, .lst (SqL.of (s10 _ _ hL3)) (rows_dp (RowsIn.kp (Same.kp s10) hR3)), .lst (SqL.of hL4) (rows_dp hR4), okd, fun H11 s11 => ⟨true, rfl, iteF ⟨_, _, _, _, _, _, _, rfl, (c9.same s10).same s11⟩⟩⟩
      clear c5 told U
      rintro σ H5 ⟨w1, w4, w5, w6, w7, w10, w11, rfl, c5⟩
      obtain ⟨xb5, hb5⟩ := c5.bag.list
      -- as many as the law's
      refine ⟨_, rfl, b, l, ms, _, rfl, c5.bag, by decide, by decide, fun H6 r r0 r1 O6 B6 => ?_⟩
      have c6 := c5.nl (NL.grow hb5 O6.grow) B6
      clear c5 hb5 xb5 O6 B6
      obtain ⟨m, rfl⟩ := Int.eq_ofNat_of_zero_le r0
      refine ⟨fun σ H' => ∃ (v1 v3 v4 v5 v6 v7 v9 v10 v11 : Option V), σ = [some (.ref a), v1, some (.ref t), v3, v4, v5, v6, v7, some (.ref b), v9, v10, v11, some (.ref x)] ∧ CoreT C b l t x [(Pt, lq)] ms n ps H', ?_, ?_⟩
      · obtain ⟨dx1, q1, lv1, en1, as1, ls1, es1, hx1, _⟩ := id c6.wa
        refine ⟨_, rfl, x, dx1, _, rfl, hx1, wf_meth _ _ _ _ (by decide +kernel), _, rfl, x, n, ps, _, rfl, c6.wa, hG.2.1, by omega, by omega, fun m' em hm H7 s7 => ?_, fun z => absurd ⟨by omega, by omega⟩ z⟩
        obtain rfl : m = m' := by omega
        have c7 := c6.same s7
        refine ⟨_, rfl, x, dx1, _, rfl, s7 _ _ hx1, wf_meth _ _ _ _ (by decide +kernel), _, rfl, x, n, ps, _, rfl, c7.wa, hG.2.1, by omega, by omega, fun k' ek hk' H8 s8 => ?_, fun z => absurd ⟨by omega, by omega⟩ z⟩
        obtain rfl : k' = k + 1 := by omega
        rw [cnt_rows hG.2.1]
        refine ⟨by show 2 ≤ sizeLine; decide, fun L1 hL1 => ?_⟩
        have s9 : Same H8 (upd H8 L1 (.lst [.int ((cntL n ps m).sum : Nat), .int (((rowsF ps k).length : Nat) : Int)])) := same_new (Same.refl H8) hL1
        have h9 : upd H8 L1 (.lst [.int ((cntL n ps m).sum : Nat), .int (((rowsF ps k).length : Nat) : Int)]) L1 = some (.lst [.int ((cntL n ps m).sum : Nat), .int (((rowsF ps k).length : Nat) : Int)]) := upd_same
        generalize upd H8 L1 (.lst [.int ((cntL n ps m).sum : Nat), .int (((rowsF ps k).length : Nat) : Int)]) = H9 at s9 h9
        have c9 := (c7.same s8).same s9
        refine ⟨_, rfl, _, rfl, t, n, ps, m, rfl, c9.wt, by omega, by omega, by omega, fun H10 s10 => ?_⟩
        refine ⟨_, rfl, by show 2 ≤ sizeLine; decide, fun L2 hL2 => ?_⟩
        have s11 : Same H10 (upd H10 L2 (.lst [.int ((cntL n ps m).sum : Nat), .int (((rowsF ps k).length : Nat) : Int)])) := same_new (Same.refl H10) hL2
        refine ⟨.ref L1, .ref L2, .list [.int ((cntL n ps m).sum : Nat), .int (((rowsF ps k).length : Nat) : Int)], rfl, .lst (SqL.of ((s10.trans s11) _ _ h9)) (.cons (.int _) (.cons (.int _) .nil)), .lst (SqL.of upd_same) (.cons (.int _) (.cons (.int _) .nil)), ?_, fun H12 s12 => ⟨true, rfl, iteF ⟨_, _, _, _, _, _, _, _, _, rfl, ((c9.same s10).same s11).same s12⟩⟩⟩
        refine .inr ⟨_, .inl rfl, by show 2 ≤ 1000; decide, fun y hy => ?_⟩
        simp only [List.mem_cons, List.not_mem_nil, or_false] at hy
        rcases hy with rfl | rfl
        · exact .inl (.inl ⟨_, rfl⟩)
        · exact .inl (.inl ⟨_, rfl⟩)
      clear c6
      rintro σ H6 ⟨w1, w3, w4, w5, w6, w7, w9, w10, w11, rfl, c6⟩
      obtain ⟨xb6, hb6⟩ := c6.bag.list
      -- a length out of its bounds
      refine ⟨fun σ H' => ∃ (v1 v3 v4 v5 v6 v7 v9 v11 : Option V) (odd : Int), σ = [some (.ref a), v1, some (.ref t), v3, v4, v5, v6, v7, some (.ref b), v9, some (.int odd), v11, some (.ref x)] ∧ ¬ (0 ≤ odd ∧ odd ≤ 60) ∧ CoreT C b l t x [(Pt, lq)] ms n ps H', ?_, ?_⟩
      · refine ⟨_, rfl, _, rfl, _, rfl, b, l, ms, rfl, c6.bag, fun H7 i7 Gr7 B7 far7 => ⟨by show 3 ≤ sizeLine; decide, fun L7 hL7 => ?_⟩⟩
        have c7 := (c6.nl (NL.grow hb6 Gr7) B7).same (same_new (o := .lst [.int 61, .int (-1), .int i7]) (Same.refl H7) hL7)
        obtain ⟨xb7, hb7⟩ := c7.bag.list
        refine ⟨b, l, L7, ms, _, rfl, c7.bag, SqL.of upd_same, (B7.nb hL7).symm, fun o e => ?_, by show 1 ≤ 3; decide, by show 3 ≤ 1000; decide, fun H8 v8 O8 B8 hv8 => ?_⟩
        · rw [upd_same] at e
          cases e
          exact ⟨_, rfl⟩
        have c8 := c7.nl (NL.grow hb7 O8.grow) B8
        obtain ⟨odd, rfl, no⟩ : ∃ r : Int, v8 = .int r ∧ ¬ (0 ≤ r ∧ r ≤ 60) := by
          simp only [List.mem_cons, List.not_mem_nil, or_false] at hv8
          rcases hv8 with rfl | rfl | rfl
          · exact ⟨_, rfl, by omega⟩
          · exact ⟨_, rfl, by omega⟩
          · exact ⟨_, rfl, by omega⟩
        exact ⟨_, _, _, _, _, _, _, _, odd, rfl, no, c8⟩
      clear c6 hb6 xb6
      rintro σ H6 ⟨w1, w3, w4, w5, w6, w7, w9, w11, odd, rfl, no, c6⟩
      -- refused
      refine ⟨fun σ H' => ∃ (v1 v3 v4 v5 v7 v9 v10 v11 : Option V) (La U1 U2 : Addr), σ = [some (.ref a), v1, some (.ref t), v3, v4, v5, some (.ref La), v7, some (.ref b), v9, v10, v11, some (.ref x)] ∧ H' La = some (.lst [.ref U1, .ref U2]) ∧ H' U1 = some (.tup [.str "BadWindow", .non]) ∧ H' U2 = some (.tup [.str "BadWindow", .non]) ∧ CoreT C b l t x [(Pt, lq)] ms n ps H', ?_, ?_⟩
      · refine ⟨c6.tabs, fun H7 e7 T7 => ?_⟩
        have c7 := c6.ext e7 T7
        obtain ⟨dx1, q1, lv1, en1, as1, ls1, es1, hx1, _⟩ := id c7.wa
        refine ⟨_, rfl, x, dx1, _, rfl, hx1, wf_meth _ _ _ _ (by decide +kernel), _, rfl, x, n, ps, odd, rfl, c7.wa, hG.2.1, by omega, by omega, fun m em hm => absurd ⟨by omega, by omega⟩ no, fun _ => told_none Z.kb Z.tb fun H8 U1 s8 nU1 => ?_⟩
        have c8 := (c7.same s8).same (same_new (o := .tup [.str "BadWindow", .non]) (Same.refl H8) nU1)
        have hU1 : upd H8 U1 (.tup [.str "BadWindow", .non]) U1 = some (.tup [.str "BadWindow", .non]) := upd_same
        generalize upd H8 U1 (.tup [.str "BadWindow", .non]) = H9 at c8 hU1
        refine ⟨c8.tabs, fun H10 e10 T10 => ?_⟩
        have c10 := c8.ext e10 T10
        have hU1 := e10 _ _ hU1 (fun _ => by intro z; cases z)
        obtain ⟨dx2, q2, lv2, en2, as2, ls2, es2, hx2, _⟩ := id c10.wa
        refine ⟨_, rfl, x, dx2, _, rfl, hx2, wf_meth _ _ _ _ (by decide +kernel), _, rfl, _, rfl, by show 3 ≤ sizeLine; decide, fun L11 hL11 => ?_⟩
        have s11 : Same H10 (upd H10 L11 (.lst [.int 0, .int 7, .int odd])) := same_new (Same.refl H10) hL11
        have h11 : upd H10 L11 (.lst [.int 0, .int 7, .int odd]) L11 = some (.lst [.int 0, .int 7, .int odd]) := upd_same
        have n11 := (c10.bag.nb hL11).symm
        generalize upd H10 L11 (.lst [.int 0, .int 7, .int odd]) = H11 at s11 h11
        have c11 := c10.same s11
        obtain ⟨xb11, hb11⟩ := c11.bag.list
        refine ⟨b, l, L11, ms, _, rfl, c11.bag, SqL.of h11, n11, fun o e => ?_, by show 1 ≤ 3; decide, by show 3 ≤ 1000; decide, fun H12 v12 O12 B12 hv12 => ?_⟩
        · rw [h11] at e
          cases e
          exact ⟨_, rfl⟩
        have c12 := c11.nl (NL.grow hb11 O12.grow) B12
        have hU1 := NL.grow hb11 O12.grow _ _ (fun _ => by intro z; cases z) (s11 _ _ hU1)
        obtain ⟨i12, rfl, no12⟩ : ∃ r : Int, v12 = .int r ∧ ¬ (1 ≤ r ∧ r ≤ 6) := by
          simp only [List.mem_cons, List.not_mem_nil, or_false] at hv12
          rcases hv12 with rfl | rfl | rfl
          · exact ⟨_, rfl, by omega⟩
          · exact ⟨_, rfl, by omega⟩
          · exact ⟨_, rfl, by omega⟩
        refine ⟨x, n, ps, i12, rfl, c12.wa, hG, by omega, by omega, fun k' ek h6 => absurd ⟨by omega, by omega⟩ no12, fun k' ek h6 => absurd ⟨by omega, by omega⟩ no12, fun _ => told_none Z.kb Z.tb fun H13 U2 s13 nU2 => ?_⟩
        have s14 : Same H13 (upd H13 U2 (.tup [.str "BadWindow", .non])) := same_new (Same.refl H13) nU2
        have hU2 : upd H13 U2 (.tup [.str "BadWindow", .non]) U2 = some (.tup [.str "BadWindow", .non]) := upd_same
        generalize upd H13 U2 (.tup [.str "BadWindow", .non]) = H14 at s14 hU2
        have c14 := (c12.same s13).same s14
        have hU1 := (s13.trans s14) _ _ hU1
        refine ⟨by show 2 ≤ sizeLine; decide, fun La hLa => ?_⟩
        have s15 : Same H14 (upd H14 La (.lst [.ref U1, .ref U2])) := same_new (Same.refl H14) hLa
        exact ⟨_, _, _, _, _, _, _, _, La, U1, U2, rfl, upd_same, s15 _ _ hU1, s15 _ _ hU2, c14.same s15⟩
      clear c6
      rintro σ H6 ⟨w1, w3, w4, w5, w7, w9, w10, w11, La, U1, U2, rfl, hLa, hU1, hU2, c6⟩
      refine ⟨fun σ H' => ∃ (v1 v3 v4 v5 v6 v7 v9 v10 v11 : Option V), σ = [some (.ref a), v1, some (.ref t), v3, v4, v5, v6, v7, some (.ref b), v9, v10, v11, some (.ref x)] ∧ CoreT C b l t x [(Pt, lq)] ms n ps H', ?_, ?_⟩
      · refine ⟨_, rfl, by show 2 ≤ sizeLine; decide, fun V1 hV1 => ?_⟩
        have s7 : Same H6 (upd H6 V1 (.tup [.str "BadWindow", .non])) := same_new (Same.refl H6) hV1
        have hv7 : upd H6 V1 (.tup [.str "BadWindow", .non]) V1 = some (.tup [.str "BadWindow", .non]) := upd_same
        generalize upd H6 V1 (.tup [.str "BadWindow", .non]) = H7 at s7 hv7
        refine ⟨by show 1 ≤ sizeLine; decide, fun V2 hV2 => ?_⟩
        have s8 : Same H7 (upd H7 V2 (.lst [.ref V1])) := same_new (Same.refl H7) hV2
        have hv8 : upd H7 V2 (.lst [.ref V1]) V2 = some (.lst [.ref V1]) := upd_same
        generalize upd H7 V2 (.lst [.ref V1]) = H8 at s8 hv8
        refine ⟨V2, 2, _, rfl, rfl, hv8, by decide, by decide, by show 1 * 2 ≤ sizeLine; decide, fun V3 hV3 => ?_⟩
        have s9 : Same H8 (upd H8 V3 (.lst (List.replicate (2 : Int).toNat [V.ref V1]).flatten)) := same_new (Same.refl H8) hV3
        have hv9 : upd H8 V3 (.lst (List.replicate (2 : Int).toNat [V.ref V1]).flatten) V3 = some (.lst [.ref V1, .ref V1]) := upd_same
        generalize upd H8 V3 (.lst (List.replicate (2 : Int).toNat [V.ref V1]).flatten) = H9 at s9 hv9
        have t9 := (s7.trans s8).trans s9
        have hv1 := (s8.trans s9) _ _ hv7
        have w : ∀ {u : Addr}, H9 u = some (.tup [.str "BadWindow", .non]) → Dp K H9 (.ref u) (.tuple [.str "BadWindow", .none]) := fun h => .tup (SqT.of h) (.cons (.str _) (.cons .non .nil))
        refine ⟨.list [.tuple [.str "BadWindow", .none], .tuple [.str "BadWindow", .none]], .list [.tuple [.str "BadWindow", .none], .tuple [.str "BadWindow", .none]], .lst (SqL.of (t9 _ _ hLa)) (.cons (w (t9 _ _ hU1)) (.cons (w (t9 _ _ hU2)) .nil)), .lst (SqL.of hv9) (.cons (w hv1) (.cons (w hv1) .nil)), by decide +kernel, by decide +kernel, false, rfl, iteF ?_⟩
        exact ⟨_, _, _, _, _, _, _, _, _, rfl, c6.same t9⟩
      clear c6 hLa hU1 hU2
      rintro σ H6 ⟨w1, w3, w4, w5, w6, w7, w9, w10, w11, rfl, c6⟩
      -- arrows of a walk, and one more
      refine ⟨fun σ H' => ∃ (v1 v3 v4 v5 v6 v9 v10 v11 : Option V) (Lr : Addr) (rr : List Int), σ = [some (.ref a), v1, some (.ref t), v3, v4, v5, v6, some (.ref Lr), some (.ref b), v9, v10, v11, some (.ref x)] ∧ H' Lr = some (.lst (rr.map V.int)) ∧ rr.length ≤ 100 ∧ b ≠ Lr ∧ CoreT C b l t x [(Pt, lq)] ms n ps H', ?_, ?_⟩
      · refine ⟨_, rfl, _, rfl, b, l, ms, t, n, ps, rfl, c6.bag, c6.wt, by omega, by omega, fun H7 u a1 a2 fr rg Gr7 B7 hu7 h71 h72 hne7 _ _ hl7 => ?_⟩
        obtain ⟨xb6, hb6⟩ := c6.bag.list
        have c7 := c6.nl (NL.grow hb6 Gr7) B7
        refine ⟨u, _, _, _, rfl, rfl, SqT.of hu7, rfl, a2, _, rfl, .inl (SqL.of h72), fun L8 hL8 => ?_⟩
        have s8 : Same H7 (upd H7 L8 (.lst (nums rg))) := same_new (Same.refl H7) hL8
        have h8 : upd H7 L8 (.lst (nums rg)) L8 = some (.lst (nums rg)) := upd_same
        generalize upd H7 L8 (.lst (nums rg)) = H8 at s8 h8
        have c8 := c7.same s8
        obtain ⟨xb8, hb8⟩ := c8.bag.list
        obtain ⟨q8, as8, ht8, hq8, hP8, _⟩ := id c8.wt
        have hal : as8.length = ps.length := Paired.length hP8
        have pos : 0 < ps.length := by
          obtain ⟨p, hp, _⟩ := hG.2.2 0 (by have := hG.1; omega)
          exact List.length_pos_of_mem hp
        refine ⟨_, rfl, _, rfl, t, _, _, _, rfl, rfl, SqT.of ht8, rfl, q8, _, rfl, .inr hq8.sq, b, l, ms, _, rfl, c8.bag, by omega, by omega, fun H9 r r0 r1 O9 B9 => ⟨by show 1 ≤ sizeLine; decide, fun M hM => ?_⟩⟩
        have c9 := c8.nl (NL.grow hb8 O9.grow) B9
        have n8 : b ≠ L8 := c7.bag.nb hL8
        have h9 : H9 L8 = some (.lst (nums rg)) := by rw [O9 L8 n8.symm]; exact h8
        have s10 : Same H9 (upd H9 M (.lst [.int r])) := same_new (Same.refl H9) hM
        refine ⟨L8, M, _, _, rfl, rfl, s10 _ _ h9, upd_same, ?_, fun p hp => ?_⟩
        · rw [sizeLine_eq]
          unfold nums
          rw [List.length_map]
          show rg.length + 1 ≤ _
          omega
        have c10 := c9.same s10
        refine ⟨_, _, _, _, _, _, _, _, p, intsN rg ++ [r], rfl, ?_, ?_, c10.bag.nb hp, c10.same (same_new (Same.refl _) hp)⟩
        · rw [upd_same, List.map_append, intsN_map]
          rfl
        · rw [List.length_append, intsN_len]
          show rg.length + 1 ≤ 100
          omega
      clear c6
      rintro σ H6 ⟨w1, w3, w4, w5, w6, w9, w10, w11, Lr, rr, rfl, hLr, lr, nLr, c6⟩
      -- perhaps one that is no arrow
      refine ⟨fun σ H' => ∃ (v1 v3 v4 v5 v6 v9 v10 v11 : Option V) (Lr : Addr) (rr : List Int), σ = [some (.ref a), v1, some (.ref t), v3, v4, v5, v6, some (.ref Lr), some (.ref b), v9, v10, v11, some (.ref x)] ∧ H' Lr = some (.lst (rr.map V.int)) ∧ rr.length ≤ 101 ∧ CoreT C b l t x [(Pt, lq)] ms n ps H', ?_, ?_⟩
      · obtain ⟨q6, as6, ht6, hq6, hP6, _⟩ := id c6.wt
        refine ⟨_, rfl, _, rfl, _, rfl, t, _, _, _, rfl, rfl, SqT.of ht6, rfl, q6, _, rfl, .inr hq6.sq, _, rfl, by show 3 ≤ sizeLine; decide, fun L7 hL7 => ?_⟩
        have s7 : Same H6 (upd H6 L7 (.lst [.int 0, .int ((as6.length : Nat) : Int), .int (-1)])) := same_new (Same.refl H6) hL7
        have h7 : upd H6 L7 (.lst [.int 0, .int ((as6.length : Nat) : Int), .int (-1)]) L7 = some (.lst [.int 0, .int ((as6.length : Nat) : Int), .int (-1)]) := upd_same
        have n7 := (c6.bag.nb hL7).symm
        have hLr7 := s7 _ _ hLr
        generalize upd H6 L7 (.lst [.int 0, .int ((as6.length : Nat) : Int), .int (-1)]) = H7 at s7 h7 hLr7
        have c7 := c6.same s7
        obtain ⟨xb7, hb7⟩ := c7.bag.list
        refine ⟨b, l, L7, ms, _, rfl, c7.bag, SqL.of h7, n7, fun o e => ?_, by show 1 ≤ 3; decide, by show 3 ≤ 1000; decide, fun H8 v8 O8 B8 hv8 => ?_⟩
        · rw [h7] at e
          cases e
          exact ⟨_, rfl⟩
        have c8 := c7.nl (NL.grow hb7 O8.grow) B8
        have hLr8 : H8 Lr = some (.lst (rr.map V.int)) := by rw [O8 Lr nLr.symm]; exact hLr7
        obtain ⟨i8, rfl⟩ : ∃ r : Int, v8 = .int r := by
          simp only [List.mem_cons, List.not_mem_nil, or_false] at hv8
          rcases hv8 with rfl | rfl | rfl
          · exact ⟨_, rfl⟩
          · exact ⟨_, rfl⟩
          · exact ⟨_, rfl⟩
        refine ⟨by show 1 ≤ sizeLine; decide, fun L9 hL9 => ?_⟩
        have s9 : Same H8 (upd H8 L9 (.lst [.int i8])) := same_new (Same.refl H8) hL9
        have h9 : upd H8 L9 (.lst [.int i8]) L9 = some (.lst [.int i8]) := upd_same
        have n9 := (c8.bag.nb hL9).symm
        generalize upd H8 L9 (.lst [.int i8]) = H9 at s9 h9
        have c9 := c8.same s9
        obtain ⟨xb9, hb9⟩ := c9.bag.list
        refine ⟨_, rfl, b, l, ms, _, rfl, c9.bag, by decide, by decide, fun H10 r r0 r1 O10 B10 => ?_⟩
        have c10 := c9.nl (NL.grow hb9 O10.grow) B10
        have hLr10 : H10 Lr = some (.lst (rr.map V.int)) := by rw [O10 Lr nLr.symm]; exact s9 _ _ hLr8
        have h10 : H10 L9 = some (.lst [.int i8]) := by rw [O10 L9 n9]; exact h9
        refine ⟨rfl, .inr ⟨_, rfl, ?_⟩⟩
        have fin : ∀ (bb : Bool), rRep (.ref L9) (.int (if bb = true then 1 else 0)) H10 fun v H' => rCat (.ref Lr) v H' fun v2 H2 => ∃ (Lr : Addr) (rr : List Int), v2 = .ref Lr ∧ H2 Lr = some (.lst (rr.map V.int)) ∧ rr.length ≤ 101 ∧ CoreT C b l t x [(Pt, lq)] ms n ps H2 := fun bb => by
          refine ⟨L9, _, _, rfl, rfl, h10, by cases bb <;> decide, by cases bb <;> decide, ?_, fun p hp => ?_⟩
          · cases bb
            · show 1 * 0 ≤ sizeLine
              decide
            · show 1 * 1 ≤ sizeLine
              decide
          have s11 : Same H10 (upd H10 p (.lst (List.replicate ((if bb = true then 1 else 0 : Int)).toNat [V.int i8]).flatten)) := same_new (Same.refl H10) hp
          refine ⟨Lr, p, _, _, rfl, rfl, s11 _ _ hLr10, upd_same, ?_, fun p2 hp2 => ⟨p2, rr ++ (if bb = true then [i8] else []), rfl, ?_, ?_, (c10.same s11).same (same_new (Same.refl _) hp2)⟩⟩
          · rw [sizeLine_eq, List.length_map]
            cases bb
            · show rr.length + 0 ≤ _
              omega
            · show rr.length + 1 ≤ _
              omega
          · rw [upd_same, List.map_append]
            cases bb
            · rfl
            · rfl
          · rw [List.length_append]
            cases bb
            · show rr.length + 0 ≤ _
              omega
            · show rr.length + 1 ≤ _
              omega
        obtain ⟨l', k', xs', e1, e2, e3, e4, e5, e6, go⟩ := fin (decide (V.int r = V.int 0))
        refine ⟨l', k', xs', e1, e2, e3, e4, e5, e6, fun p hp => ?_⟩
        obtain ⟨l2, b2, xs2, zs2, g1, g2, g3, g4, g5, go2⟩ := go p hp
        refine ⟨l2, b2, xs2, zs2, g1, g2, g3, g4, g5, fun p2 hp2 => ?_⟩
        obtain ⟨L3, rr3, ev, h3, l3, c3⟩ := go2 p2 hp2
        injection ev with ev
        subst ev
        exact ⟨_, _, _, _, _, _, _, _, p2, rr3, rfl, h3, l3, c3⟩
      clear c6 nLr hLr
      rintro σ H6 ⟨w1, w3, w4, w5, w6, w9, w10, w11, Lr, rr, rfl, hLr, lr, c6⟩
      obtain ⟨dx1, q1, lv1, en1, as1, ls1, es1, hx1, _⟩ := id c6.wa
      refine ⟨_, rfl, x, dx1, _, rfl, hx1, wf_meth _ _ _ _ (by decide +kernel), _, rfl, x, Lr, n, ps, rr, rfl, c6.wa, .inl (SqL.of hLr), fun H7 b1 s7 e1 => ?_⟩
      have c7 := c6.same s7
      refine ⟨_, rfl, x, dx1, _, rfl, s7 _ _ hx1, wf_meth _ _ _ _ (by decide +kernel), _, rfl, Lr, _, rfl, .inl ⟨SqL.of (s7 _ _ hLr), fun p8 hp8 => ?_⟩⟩
      have s8 : Same H7 (upd H7 p8 (.tup (rr.map V.int))) := same_new (Same.refl H7) hp8
      have h8 : upd H7 p8 (.tup (rr.map V.int)) p8 = some (.tup (rr.map V.int)) := upd_same
      generalize upd H7 p8 (.tup (rr.map V.int)) = H8 at s8 h8
      have c8 := c7.same s8
      refine ⟨x, p8, n, ps, rr, rfl, c8.wa, .inr (SqT.of h8), fun H9 b2 s9 e2 => ?_⟩
      have c9 := c8.same s9
      refine ⟨_, rfl, x, dx1, _, rfl, ((s7.trans s8).trans s9) _ _ hx1, wf_meth _ _ _ _ (by decide +kernel), Nat.zero_le _, fun L10 hL10 => ?_⟩
      have s10 : Same H9 (upd H9 L10 (.lst [])) := same_new (Same.refl H9) hL10
      refine ⟨x, L10, n, ps, [], rfl, (c9.same s10).wa, .inl (SqL.of upd_same), fun H11 b3 s11 e3 => ?_⟩
      have c11 := (c9.same s10).same s11
      have eb3 : b3 = true := e3.mpr fun k hk => absurd hk (Nat.not_lt_zero _)
      subst eb3
      have hLr11 := ((((s7.trans s8).trans s9).trans s10).trans s11) _ _ hLr
      refine ⟨by show 3 ≤ sizeLine; decide, fun M hM => ?_⟩
      have s12 : Same H11 (upd H11 M (.lst [.bl b1, .bl b2, .bl true])) := same_new (Same.refl H11) hM
      have h12 : upd H11 M (.lst [.bl b1, .bl b2, .bl true]) M = some (.lst [.bl b1, .bl b2, .bl true]) := upd_same
      generalize upd H11 M (.lst [.bl b1, .bl b2, .bl true]) = H12 at s12 h12
      have c12 := c11.same s12
      refine ⟨_, rfl, _, rfl, t, Lr, n, ps, rr, rfl, c12.wt, SqL.of (s12 _ _ hLr11), by omega, fun H13 b4 s13 e4 => ?_⟩
      have c13 := c12.same s13
      refine ⟨_, rfl, _, rfl, t, Lr, n, ps, rr, rfl, c13.wt, SqL.of ((s12.trans s13) _ _ hLr11), by omega, fun H14 b5 s14 e5 => ?_⟩
      have same2 : ∀ {u v : Bool}, (u = true ↔ RowOk ps rr) → (v = true ↔ RowOk ps rr) → u = v := fun {u v} hu hv => by
        cases u <;> cases v
        · rfl
        · exact absurd (hu.mpr (hv.mp rfl)) (by decide)
        · exact absurd (hv.mpr (hu.mp rfl)) (by decide)
        · rfl
      obtain rfl : b1 = b2 := same2 e1 e2
      obtain rfl : b1 = b4 := same2 e1 e4
      obtain rfl : b1 = b5 := same2 e1 e5
      refine ⟨by show 3 ≤ sizeLine; decide, fun M2 hM2 => ?_⟩
      have s15 : Same H14 (upd H14 M2 (.lst [.bl b1, .bl b1, .bl true])) := same_new (Same.refl H14) hM2
      have c15 := (c13.same s14).same s15
      refine ⟨.ref M, .ref M2, .list [.bool b1, .bool b1, .bool true], rfl, .lst (SqL.of (((s13.trans s14).trans s15) _ _ h12)) (.cons (.bl _) (.cons (.bl _) (.cons (.bl _) .nil))), .lst (SqL.of upd_same) (.cons (.bl _) (.cons (.bl _) (.cons (.bl _) .nil))), ?_, fun H16 s16 => ⟨true, rfl, iteF ?_⟩⟩
      · refine .inr ⟨_, .inl rfl, by show 3 ≤ 1000; decide, fun y hy => ?_⟩
        simp only [List.mem_cons, List.not_mem_nil, or_false] at hy
        rcases hy with rfl | rfl | rfl
        · exact .inl (.inr (.inr (.inl ⟨_, rfl⟩)))
        · exact .inl (.inr (.inr (.inl ⟨_, rfl⟩)))
        · exact .inl (.inr (.inr (.inl ⟨_, rfl⟩)))
      have c16 := c15.same s16
      exact ⟨⟨_, _, _, _, _, _, _, _, _, _, _, rfl⟩, c16.bag, c16.tabs⟩
    · rintro σ H2 ⟨⟨v1, v2, v3, v4, v5, v6, v7, v9, v10, v11, v12, rfl⟩, B2, T2⟩
      -- a web of one room
      obtain ⟨xb2, hb2⟩ := B2.list
      refine ⟨_, rfl, b, l, ms, _, rfl, B2, by decide, by decide, fun H3 r r0 r1 O3 B3 => ⟨_, _, rfl, rfl, ?_⟩⟩
      have T3 := tabs_nl (NL.grow hb2 O3.grow) T2
      obtain ⟨m, hm, hm1, hm2⟩ : ∃ m : Nat, 23 + r = (m : Int) ∧ 23 ≤ m ∧ m ≤ 25 := ⟨(23 + r).toNat, by omega, by omega, by omega⟩
      dsimp only
      rw [hm]
      refine ⟨fun σ H' => ∃ (U : Addr) (v1 v2 v3 v5 v6 v7 v8 v9 v10 v12 : Option V), σ = [some (.ref a), v1, v2, v3, some (.ref U), v5, v6, v7, v8, v9, v10, some (.int (m : Int)), v12] ∧ ((m < 25 ∧ H' U = some (.tup [.str "told", .int ((m * m : Nat) : Int)])) ∨ (m = 25 ∧ H' U = some (.tup [.str "TooMany", .int 600]))), ?_, ?_⟩
      · refine ⟨T3, fun H4 e4 T4 => ⟨by show 2 ≤ sizeLine; decide, fun V1 hV1 => ?_⟩⟩
        have h5 : upd H4 V1 (.tup [.int 0, .int 0]) V1 = some (.tup [.int 0, .int 0]) := upd_same
        generalize upd H4 V1 (.tup [.int 0, .int 0]) = H5 at h5
        refine ⟨by show 1 ≤ sizeLine; decide, fun V2 hV2 => ?_⟩
        have s6 : Same H5 (upd H5 V2 (.lst [.ref V1])) := same_new (Same.refl H5) hV2
        have h6 : upd H5 V2 (.lst [.ref V1]) V2 = some (.lst [.ref V1]) := upd_same
        generalize upd H5 V2 (.lst [.ref V1]) = H6 at s6 h6
        refine ⟨_, rfl, V2, _, _, rfl, rfl, h6, by omega, by omega, by rw [sizeLine_eq]; show 1 * ((m : Int)).toNat ≤ _; omega, fun V3 hV3 => ?_⟩
        have s7 : Same H6 (upd H6 V3 (.lst (List.replicate ((m : Int)).toNat [V.ref V1]).flatten)) := same_new (Same.refl H6) hV3
        have h7 : upd H6 V3 (.lst (List.replicate ((m : Int)).toNat [V.ref V1]).flatten) V3 = some (.lst (List.replicate m (V.ref V1))) := by
          rw [upd_same, List.flatten_replicate_singleton]
          rfl
        generalize upd H6 V3 (.lst (List.replicate ((m : Int)).toNat [V.ref V1]).flatten) = H7 at s7 h7
        intro x dx nx ndx nex
        have s8 : Same H7 (upd (upd H7 dx (.own x)) x (.ins C dx [])) := fun b o e => by
          rw [upd_ne (ne_of_none e nx), upd_ne (ne_of_none e ndx)]
          exact e
        have rosy : Good 1 (List.replicate m ((0 : Nat), (0 : Nat))) := ⟨Nat.le_refl _, fun p hp => by rw [List.eq_of_mem_replicate hp]; exact ⟨Nat.zero_lt_one, Nat.zero_lt_one⟩, fun r hr => ⟨(0, 0), List.mem_replicate.mpr ⟨by omega, rfl⟩, by show 0 = r; omega⟩⟩
        have lm : (List.replicate m ((0 : Nat), (0 : Nat))).length = m := List.length_replicate
        refine ⟨x, dx, V3, 1, _, List.replicate m (0, 0), rfl, upd_same, SqL.of (s8 _ _ h7), rep_pairs (((s6.trans s7).trans s8) _ _ h5) m, rosy, by decide, by omega, fun H9 hW g => ⟨rfl, ?_⟩⟩
        have hl : (rowsF (List.replicate m ((0 : Nat), (0 : Nat))) 1).length = m * m := by
          have cs : m = 23 ∨ m = 24 ∨ m = 25 := by omega
          rcases cs with rfl | rfl | rfl
          · exact rose_rows.1
          · exact rose_rows.2.1
          · exact rose_rows.2.2
        obtain ⟨dx9, q9, lv9, en9, as9, ls9, es9, hx9, _⟩ := id hW
        refine ⟨x, dx9, _, rfl, hx9, wf_meth _ _ _ _ (by decide +kernel), x, 1, List.replicate m (0, 0), 2, rfl, hW, rosy, by decide, by omega, fun k' ek h6 few H10 L vs s10 nL hL hR => ?_, fun k' ek h6 lot => ?_, fun z => absurd ⟨by decide, by decide⟩ z⟩
        · obtain rfl : k' = 1 := by omega
          have lv : vs.length = m * m := (Paired.length hR).trans hl
          have lt25 : m < 25 := by
            rw [hl] at few
            by_cases z : m = 25
            · rw [z] at few
              exact absurd few (by decide)
            · omega
          refine ⟨L, vs, rfl, .inl (SqL.of hL), by show 2 ≤ sizeLine; decide, fun U hU => ⟨U, _, _, _, _, _, _, _, _, _, _, rfl, .inl ⟨lt25, ?_⟩⟩⟩
          rw [upd_same, lv]
        · obtain rfl : k' = 1 := by omega
          have is25 : m = 25 := by
            rw [hl] at lot
            have cs : m = 23 ∨ m = 24 ∨ m = 25 := by omega
            rcases cs with rfl | rfl | rfl
            · exact absurd lot (by decide)
            · exact absurd lot (by decide)
            · rfl
          exact told_fld Z.km Z.tt rfl Z.nm fun H11 U s11 nU => ⟨U, _, _, _, _, _, _, _, _, _, _, rfl, .inr ⟨is25, upd_same⟩⟩
      rintro σ H4 ⟨U, w1, w2, w3, w5, w6, w7, w8, w9, w10, w12, rfl, got⟩
      refine ⟨_, rfl, _, rfl, _, _, rfl, rfl, ?_⟩
      rcases got with ⟨lt, hU⟩ | ⟨rfl, hU⟩
      · refine ⟨true, congrArg V.bl (decide_eq_true (by omega)), iteT ⟨_, rfl, _, rfl, _, _, rfl, rfl, ?_⟩⟩
        have cs : m = 23 ∨ m = 24 := by omega
        rcases cs with rfl | rfl
        · refine ⟨.inl ⟨by decide, by decide⟩, by show 2 ≤ sizeLine; decide, fun V1 hV1 => ?_⟩
          have s5 : Same H4 (upd H4 V1 (.tup [.str "told", .int 529])) := same_new (Same.refl H4) hV1
          exact ⟨.tuple [.str "told", .int 529], .tuple [.str "told", .int 529], .tup (SqT.of (s5 _ _ hU)) (.cons (.str _) (.cons (.int _) .nil)), .tup (SqT.of upd_same) (.cons (.str _) (.cons (.int _) .nil)), by decide +kernel, by decide +kernel, kk _⟩
        · refine ⟨.inl ⟨by decide, by decide⟩, by show 2 ≤ sizeLine; decide, fun V1 hV1 => ?_⟩
          have s5 : Same H4 (upd H4 V1 (.tup [.str "told", .int 576])) := same_new (Same.refl H4) hV1
          exact ⟨.tuple [.str "told", .int 576], .tuple [.str "told", .int 576], .tup (SqT.of (s5 _ _ hU)) (.cons (.str _) (.cons (.int _) .nil)), .tup (SqT.of upd_same) (.cons (.str _) (.cons (.int _) .nil)), by decide +kernel, by decide +kernel, kk _⟩
      · refine ⟨false, congrArg V.bl (decide_eq_false (by decide)), iteF ⟨by show 2 ≤ sizeLine; decide, fun V1 hV1 => ?_⟩⟩
        have s5 : Same H4 (upd H4 V1 (.tup [.str "TooMany", .int 600])) := same_new (Same.refl H4) hV1
        exact ⟨.tuple [.str "TooMany", .int 600], .tuple [.str "TooMany", .int 600], .tup (SqT.of (s5 _ _ hU)) (.cons (.str _) (.cons (.int _) .nil)), .tup (SqT.of upd_same) (.cons (.str _) (.cons (.int _) .nil)), by decide +kernel, by decide +kernel, kk _⟩

end
end KW


set_option Elab.async false
set_option maxRecDepth 100000
set_option maxHeartbeats 4000000
/-! The end. -/
namespace KW
open PySem PySem.Spec PyProof.Rows L2 LamX
theorem kit_own {K : PySem.W.Frag} {C : Addr} : PySem.W.kitOne K (.ref C) (.ref C) = some true := by
  unfold PySem.W.kitOne
  rw [if_pos (by simp)]
theorem kit_of {K : PySem.W.Frag} {C : Addr} {t : Value} {r : Bool} (h1 : PySem.W.isClsIn K C = true) (h2 : PySem.W.typeIn K (.ref C) = some (.type "type")) (h3 : (t == .ref C) = false) (h4 : PySem.W.subIn K t (.ref C) = some r) : PySem.W.kitOne K t (.ref C) = some r := by
  unfold PySem.W.kitOne PySem.W.kitCls
  rw [h3, if_neg (by decide)]
  have e : ((PySem.W.clsIn K C).isSome && PySem.W.typeIn K (.ref C) == some (.type "type")) = true := by
    rw [h2, show (PySem.W.clsIn K C).isSome = true from h1]
    simp
  show (if ((PySem.W.clsIn K C).isSome && PySem.W.typeIn K (.ref C) == some (.type "type")) = true then PySem.W.subIn K t (.ref C) else none) = some r
  rw [if_pos e]
  exact h4
theorem ref_ne {a b : Addr} (h : a ≠ b) : (Value.ref a == Value.ref b) = false := by simp [h]
theorem exm1 {K : PySem.W.Frag} {t c1 : Value} {b1 : Bool} (h1 : PySem.W.exmOne K t c1 = some b1) : PySem.W.exmAny K t [c1] = some b1 := by
  unfold PySem.W.exmAny PySem.W.exmAny
  rw [h1]
  simp
theorem exm2 {K : PySem.W.Frag} {t c1 c2 : Value} {b1 b2 : Bool} (h1 : PySem.W.exmOne K t c1 = some b1) (h2 : PySem.W.exmOne K t c2 = some b2) : PySem.W.exmAny K t [c1, c2] = some (b1 || b2) := by
  unfold PySem.W.exmAny
  rw [h1, exm1 h2]
theorem exm3 {K : PySem.W.Frag} {t c1 c2 c3 : Value} {b1 b2 b3 : Bool} (h1 : PySem.W.exmOne K t c1 = some b1) (h2 : PySem.W.exmOne K t c2 = some b2) (h3 : PySem.W.exmOne K t c3 = some b3) : PySem.W.exmAny K t [c1, c2, c3] = some (b1 || (b2 || b3)) := by
  unfold PySem.W.exmAny
  rw [h1, exm2 h2 h3]
def dA1 : He.DefD := ⟨("is_pair", none), "is_pair", "is_pair", defArgs sIsPair, defBody sIsPair, defScope sIsPair, [], []⟩
def dA2 : He.DefD := ⟨("pairs_of", none), "pairs_of", "pairs_of", defArgs sPairsOf, defBody sPairsOf, defScope sPairsOf, [], []⟩
def dA3 : He.DefD := ⟨("gathered", none), "gathered", "gathered", defArgs sGathered, defBody sGathered, defScope sGathered, [], []⟩
def dA4 : He.DefD := ⟨("_law_bag", none), "_law_bag", "_law_bag", defArgs sBag, defBody sBag, defScope sBag, [], []⟩
def dA5 : He.DefD := ⟨("_law_pull", none), "_law_pull", "_law_pull", defArgs sPull, defBody sPull, defScope sPull, [], []⟩
def dA6 : He.DefD := ⟨("_law_of", none), "_law_of", "_law_of", defArgs sOf, defBody sOf, defScope sOf, [], []⟩
def dA7 : He.DefD := ⟨("_law_mixed", none), "_law_mixed", "_law_mixed", defArgs sMixed, defBody sMixed, defScope sMixed, [], []⟩
def dA8 : He.DefD := ⟨("_law_web", none), "_law_web", "_law_web", defArgs sWeb, defBody sWeb, defScope sWeb, [], []⟩
def dA9 : He.DefD := ⟨("_law_made", none), "_law_made", "_law_made", defArgs sMade, defBody sMade, defScope sMade, [], []⟩
def dB1 : He.DefD := ⟨("_law_far", none), "_law_far", "_law_far", defArgs sFar, defBody sFar, defScope sFar, [], []⟩
def dB2 : He.DefD := ⟨("_law_kind", none), "_law_kind", "_law_kind", defArgs sKind, defBody sKind, defScope sKind, [], []⟩
def dB3 : He.DefD := ⟨("_law_told", none), "_law_told", "_law_told", defArgs sTold, defBody sTold, defScope sTold, [], []⟩
def dB4 : He.DefD := ⟨("_law_same", none), "_law_same", "_law_same", defArgs sSame, defBody sSame, defScope sSame, [], []⟩
def dD1 : He.DefD := ⟨("_law_outs", none), "_law_outs", "_law_outs", defArgs sLOuts, defBody sLOuts, defScope sLOuts, [], []⟩
def dD3 : He.DefD := ⟨("_law_on", none), "_law_on", "_law_on", defArgs sLOn, defBody sLOn, defScope sLOn, [], []⟩
def dD4 : He.DefD := ⟨("_law_many", none), "_law_many", "_law_many", defArgs sLMany, defBody sLMany, defScope sLMany, [], []⟩
def dD5 : He.DefD := ⟨("_law_rows", none), "_law_rows", "_law_rows", defArgs sLRows, defBody sLRows, defScope sLRows, [], []⟩
def dD6 : He.DefD := ⟨("_law_is_row", none), "_law_is_row", "_law_is_row", defArgs sLIsRow, defBody sLIsRow, defScope sLIsRow, [], []⟩
def dD7 : He.DefD := ⟨("_law_walk", none), "_law_walk", "_law_walk", defArgs sLWalk, defBody sLWalk, defScope sLWalk, [], []⟩
def dM1 : He.DefD := ⟨("Web", some "__init__"), "__init__", "Web.__init__", defArgs sInit, defBody sInit, defScope sInit, [], []⟩
def dM2 : He.DefD := ⟨("Web", some "many"), "many", "Web.many", defArgs sMany, defBody sMany, defScope sMany, [], []⟩
def dM3 : He.DefD := ⟨("Web", some "rows"), "rows", "Web.rows", defArgs sWRows, defBody sWRows, defScope sWRows, [], []⟩
def dM4 : He.DefD := ⟨("Web", some "after"), "after", "Web.after", defArgs sAfter, defBody sAfter, defScope sAfter, [], []⟩
def dM5 : He.DefD := ⟨("Web", some "has_arrow"), "has_arrow", "Web.has_arrow", defArgs sHas, defBody sHas, defScope sHas, [], []⟩
def dM6 : He.DefD := ⟨("Web", some "follows"), "follows", "Web.follows", defArgs sFollows, defBody sFollows, defScope sFollows, [], []⟩
def dM7 : He.DefD := ⟨("Web", some "wrong_place"), "wrong_place", "Web.wrong_place", defArgs sWrongPl, defBody sWrongPl, defScope sWrongPl, [], []⟩
def dM8 : He.DefD := ⟨("Web", some "is_row"), "is_row", "Web.is_row", defArgs sIsRow, defBody sIsRow, defScope sIsRow, [], []⟩
def dFF : He.DefD := ⟨("FoldError", some "__init__"), "__init__", "FoldError.__init__", defArgs sFoldInit, defBody sFoldInit, defScope sFoldInit, [.str "it cannot be"], []⟩
def dR1 : He.DefD := ⟨("BadWindow", some "__init__"), "__init__", "BadWindow.__init__", defArgs sWinInit, defBody sWinInit, defScope sWinInit, [], []⟩
def dR2 : He.DefD := ⟨("TooMany", some "__init__"), "__init__", "TooMany.__init__", defArgs sTooMany, defBody sTooMany, defScope sTooMany, [], []⟩
def dLW : He.DefD := ⟨("law", none), "law", "law", defArgs sLaw, defBody sLaw, defScope sLaw, [], []⟩
def fa0 : List Fct := [
  fun K => decide (PySem.W.nsIn K mainGlobals "len" = some none),
  fun K => decide (PySem.W.nsIn K mainGlobals "list" = some none),
  fun K => decide (PySem.W.nsIn K mainGlobals "tuple" = some none),
  fun K => decide (PySem.W.nsIn K mainGlobals "range" = some none),
  fun K => decide (PySem.W.nsIn K mainGlobals "enumerate" = some none),
  fun K => decide (PySem.W.nsIn K mainGlobals "isinstance" = some none),
  fun K => decide (PySem.W.nsIn K mainGlobals "zip" = some none),
  fun K => decide (PySem.W.nsIn K mainGlobals "all" = some none),
  fun K => decide (PySem.W.nsIn K mainGlobals "bool" = some none),
  fun K => decide (PySem.W.nsIn K mainGlobals "int" = some none),
  fun K => decide (PySem.W.nsIn K mainGlobals "str" = some none),
  fun K => decide (PySem.W.nsIn K mainGlobals "sum" = some none),
  fun K => decide (PySem.W.nsIn K mainGlobals "Web" = some (some (.ref (He.ga K "Web")))),
  fun K => PySem.W.plainGet K (He.ga K "Web") Str.empty,
  fun K => PySem.W.hasDictIn K (He.ga K "Web"),
  fun K => PySem.W.plainOver K (He.ga K "Web"),
  fun K => decide (PySem.W.findIn K (.ref (He.ga K "Web")) "__setattr__" = some (some (.builtin "object.__setattr__"))),
  fun K => PySem.W.makesIn K (He.ga K "Web"),
  fun K => PySem.W.keepIn K (.ref (He.ga K "Web")),
  fun K => decide (PySem.W.findIn K (.ref (He.ga K "Web")) "room_total" = some none),
  fun K => decide (PySem.W.findIn K (.ref (He.ga K "Web")) "pairs" = some none),
  fun K => decide (PySem.W.findIn K (.ref (He.ga K "Web")) "leaving" = some none),
  fun K => decide (PySem.W.findIn K (.ref (He.ga K "Web")) "entering" = some none),
  fun K => decide (PySem.W.nsIn K mainGlobals "is_pair" = some (some (.ref (He.ga K "is_pair")))),
  fun K => decide (PySem.W.nsIn K mainGlobals "pairs_of" = some (some (.ref (He.ga K "pairs_of")))),
  fun K => decide (PySem.W.nsIn K mainGlobals "gathered" = some (some (.ref (He.ga K "gathered")))),
  fun K => decide (PySem.W.nsIn K mainGlobals "_law_bag" = some (some (.ref (He.ga K "_law_bag")))),
  fun K => decide (PySem.W.nsIn K mainGlobals "_law_pull" = some (some (.ref (He.ga K "_law_pull")))),
  fun K => decide (PySem.W.nsIn K mainGlobals "_law_of" = some (some (.ref (He.ga K "_law_of")))),
  fun K => decide (PySem.W.nsIn K mainGlobals "_law_mixed" = some (some (.ref (He.ga K "_law_mixed")))),
  fun K => decide (PySem.W.nsIn K mainGlobals "_law_web" = some (some (.ref (He.ga K "_law_web")))),
  fun K => decide (PySem.W.nsIn K mainGlobals "_law_made" = some (some (.ref (He.ga K "_law_made")))),
  fun K => decide (PySem.W.nsIn K mainGlobals "_law_far" = some (some (.ref (He.ga K "_law_far")))),
  fun K => decide (PySem.W.nsIn K mainGlobals "_law_kind" = some (some (.ref (He.ga K "_law_kind")))),
  fun K => decide (PySem.W.nsIn K mainGlobals "_law_told" = some (some (.ref (He.ga K "_law_told")))),
  fun K => decide (PySem.W.nsIn K mainGlobals "_law_same" = some (some (.ref (He.ga K "_law_same")))),
  fun K => decide (PySem.W.nsIn K mainGlobals "_law_outs" = some (some (.ref (He.ga K "_law_outs")))),
  fun K => decide (PySem.W.nsIn K mainGlobals "_law_on" = some (some (.ref (He.ga K "_law_on")))),
  fun K => decide (PySem.W.nsIn K mainGlobals "_law_many" = some (some (.ref (He.ga K "_law_many")))),
  fun K => decide (PySem.W.nsIn K mainGlobals "_law_rows" = some (some (.ref (He.ga K "_law_rows")))),
  fun K => decide (PySem.W.nsIn K mainGlobals "_law_is_row" = some (some (.ref (He.ga K "_law_is_row")))),
  fun K => decide (PySem.W.nsIn K mainGlobals "_law_walk" = some (some (.ref (He.ga K "_law_walk")))),
  fun K => decide (PySem.W.findIn K (.ref (He.ga K "Web")) "__init__" = some (some (.ref (He.ma K (He.ga K "Web") "__init__")))),
  fun K => PySem.W.isFn K (.ref (He.ma K (He.ga K "Web") "__init__")),
  fun K => decide (PySem.W.findIn K (.ref (He.ga K "Web")) "many" = some (some (.ref (He.ma K (He.ga K "Web") "many")))),
  fun K => PySem.W.isFn K (.ref (He.ma K (He.ga K "Web") "many")),
  fun K => decide (PySem.W.findIn K (.ref (He.ga K "Web")) "rows" = some (some (.ref (He.ma K (He.ga K "Web") "rows")))),
  fun K => PySem.W.isFn K (.ref (He.ma K (He.ga K "Web") "rows")),
  fun K => decide (PySem.W.findIn K (.ref (He.ga K "Web")) "after" = some (some (.ref (He.ma K (He.ga K "Web") "after")))),
  fun K => PySem.W.isFn K (.ref (He.ma K (He.ga K "Web") "after")),
  fun K => decide (PySem.W.findIn K (.ref (He.ga K "Web")) "has_arrow" = some (some (.ref (He.ma K (He.ga K "Web") "has_arrow")))),
  fun K => PySem.W.isFn K (.ref (He.ma K (He.ga K "Web") "has_arrow")),
  fun K => decide (PySem.W.findIn K (.ref (He.ga K "Web")) "follows" = some (some (.ref (He.ma K (He.ga K "Web") "follows")))),
  fun K => PySem.W.isFn K (.ref (He.ma K (He.ga K "Web") "follows")),
  fun K => decide (PySem.W.findIn K (.ref (He.ga K "Web")) "wrong_place" = some (some (.ref (He.ma K (He.ga K "Web") "wrong_place")))),
  fun K => PySem.W.isFn K (.ref (He.ma K (He.ga K "Web") "wrong_place")),
  fun K => decide (PySem.W.findIn K (.ref (He.ga K "Web")) "is_row" = some (some (.ref (He.ma K (He.ga K "Web") "is_row")))),
  fun K => PySem.W.isFn K (.ref (He.ma K (He.ga K "Web") "is_row")),
  fun K => decide (PySem.W.nsIn K mainGlobals "BadWeb" = some (some (.ref (He.ga K "BadWeb")))),
  fun K => PySem.W.isClsIn K (He.ga K "BadWeb")]
def fa1 : List Fct := [
  fun K => decide (PySem.W.typeIn K (.ref (He.ga K "BadWeb")) = some (.type "type")),
  fun K => decide (PySem.W.nsIn K mainGlobals "BadRoom" = some (some (.ref (He.ga K "BadRoom")))),
  fun K => PySem.W.isClsIn K (He.ga K "BadRoom"),
  fun K => decide (PySem.W.typeIn K (.ref (He.ga K "BadRoom")) = some (.type "type")),
  fun K => decide (PySem.W.nsIn K mainGlobals "BadArrow" = some (some (.ref (He.ga K "BadArrow")))),
  fun K => PySem.W.isClsIn K (He.ga K "BadArrow"),
  fun K => decide (PySem.W.typeIn K (.ref (He.ga K "BadArrow")) = some (.type "type")),
  fun K => decide (PySem.W.nsIn K mainGlobals "BadFold" = some (some (.ref (He.ga K "BadFold")))),
  fun K => PySem.W.isClsIn K (He.ga K "BadFold"),
  fun K => decide (PySem.W.typeIn K (.ref (He.ga K "BadFold")) = some (.type "type")),
  fun K => decide (PySem.W.nsIn K mainGlobals "BadPart" = some (some (.ref (He.ga K "BadPart")))),
  fun K => PySem.W.isClsIn K (He.ga K "BadPart"),
  fun K => decide (PySem.W.typeIn K (.ref (He.ga K "BadPart")) = some (.type "type")),
  fun K => decide (PySem.W.nsIn K mainGlobals "BadNaming" = some (some (.ref (He.ga K "BadNaming")))),
  fun K => PySem.W.isClsIn K (He.ga K "BadNaming"),
  fun K => decide (PySem.W.typeIn K (.ref (He.ga K "BadNaming")) = some (.type "type")),
  fun K => decide (PySem.W.nsIn K mainGlobals "BadWalk" = some (some (.ref (He.ga K "BadWalk")))),
  fun K => PySem.W.isClsIn K (He.ga K "BadWalk"),
  fun K => decide (PySem.W.typeIn K (.ref (He.ga K "BadWalk")) = some (.type "type")),
  fun K => decide (PySem.W.nsIn K mainGlobals "BadBeat" = some (some (.ref (He.ga K "BadBeat")))),
  fun K => PySem.W.isClsIn K (He.ga K "BadBeat"),
  fun K => decide (PySem.W.typeIn K (.ref (He.ga K "BadBeat")) = some (.type "type")),
  fun K => decide (PySem.W.nsIn K mainGlobals "BadWindow" = some (some (.ref (He.ga K "BadWindow")))),
  fun K => PySem.W.isClsIn K (He.ga K "BadWindow"),
  fun K => decide (PySem.W.typeIn K (.ref (He.ga K "BadWindow")) = some (.type "type")),
  fun K => decide (PySem.W.nsIn K mainGlobals "BadTable" = some (some (.ref (He.ga K "BadTable")))),
  fun K => PySem.W.isClsIn K (He.ga K "BadTable"),
  fun K => decide (PySem.W.typeIn K (.ref (He.ga K "BadTable")) = some (.type "type")),
  fun K => decide (PySem.W.nsIn K mainGlobals "Apart" = some (some (.ref (He.ga K "Apart")))),
  fun K => PySem.W.isClsIn K (He.ga K "Apart"),
  fun K => decide (PySem.W.typeIn K (.ref (He.ga K "Apart")) = some (.type "type")),
  fun K => decide (PySem.W.nsIn K mainGlobals "TooMany" = some (some (.ref (He.ga K "TooMany")))),
  fun K => PySem.W.isClsIn K (He.ga K "TooMany"),
  fun K => decide (PySem.W.typeIn K (.ref (He.ga K "TooMany")) = some (.type "type")),
  fun K => decide (PySem.W.nsIn K mainGlobals "NotBack" = some (some (.ref (He.ga K "NotBack")))),
  fun K => PySem.W.isClsIn K (He.ga K "NotBack"),
  fun K => decide (PySem.W.typeIn K (.ref (He.ga K "NotBack")) = some (.type "type")),
  fun K => decide (PySem.W.nsIn K mainGlobals "BadText" = some (some (.ref (He.ga K "BadText")))),
  fun K => PySem.W.isClsIn K (He.ga K "BadText"),
  fun K => decide (PySem.W.typeIn K (.ref (He.ga K "BadText")) = some (.type "type")),
  fun K => decide (PySem.W.nsIn K mainGlobals "BadName" = some (some (.ref (He.ga K "BadName")))),
  fun K => PySem.W.isClsIn K (He.ga K "BadName"),
  fun K => decide (PySem.W.typeIn K (.ref (He.ga K "BadName")) = some (.type "type")),
  fun K => decide (PySem.W.nsIn K mainGlobals "Taken" = some (some (.ref (He.ga K "Taken")))),
  fun K => PySem.W.isClsIn K (He.ga K "Taken"),
  fun K => decide (PySem.W.typeIn K (.ref (He.ga K "Taken")) = some (.type "type")),
  fun K => decide (PySem.W.nsIn K mainGlobals "Full" = some (some (.ref (He.ga K "Full")))),
  fun K => PySem.W.isClsIn K (He.ga K "Full"),
  fun K => decide (PySem.W.typeIn K (.ref (He.ga K "Full")) = some (.type "type")),
  fun K => decide (PySem.W.nsIn K mainGlobals "Wide" = some (some (.ref (He.ga K "Wide")))),
  fun K => PySem.W.isClsIn K (He.ga K "Wide"),
  fun K => decide (PySem.W.typeIn K (.ref (He.ga K "Wide")) = some (.type "type")),
  fun K => decide (PySem.W.nsIn K mainGlobals "Used" = some (some (.ref (He.ga K "Used")))),
  fun K => PySem.W.isClsIn K (He.ga K "Used"),
  fun K => decide (PySem.W.typeIn K (.ref (He.ga K "Used")) = some (.type "type")),
  fun K => decide (PySem.W.nsIn K mainGlobals "BadDeed" = some (some (.ref (He.ga K "BadDeed")))),
  fun K => PySem.W.isClsIn K (He.ga K "BadDeed"),
  fun K => decide (PySem.W.typeIn K (.ref (He.ga K "BadDeed")) = some (.type "type")),
  fun K => decide (PySem.W.nsIn K mainGlobals "Stopped" = some (some (.ref (He.ga K "Stopped")))),
  fun K => PySem.W.isClsIn K (He.ga K "Stopped")]
def fa2 : List Fct := [
  fun K => decide (PySem.W.typeIn K (.ref (He.ga K "Stopped")) = some (.type "type")),
  fun K => decide (PySem.W.nsIn K mainGlobals "BadPage" = some (some (.ref (He.ga K "BadPage")))),
  fun K => PySem.W.isClsIn K (He.ga K "BadPage"),
  fun K => decide (PySem.W.typeIn K (.ref (He.ga K "BadPage")) = some (.type "type")),
  fun K => decide (PySem.W.nsIn K mainGlobals "NoWeb" = some (some (.ref (He.ga K "NoWeb")))),
  fun K => PySem.W.isClsIn K (He.ga K "NoWeb"),
  fun K => decide (PySem.W.typeIn K (.ref (He.ga K "NoWeb")) = some (.type "type")),
  fun K => decide (PySem.W.nsIn K mainGlobals "NoReader" = some (some (.ref (He.ga K "NoReader")))),
  fun K => PySem.W.isClsIn K (He.ga K "NoReader"),
  fun K => decide (PySem.W.typeIn K (.ref (He.ga K "NoReader")) = some (.type "type")),
  fun K => decide (PySem.W.nsIn K mainGlobals "NoWalker" = some (some (.ref (He.ga K "NoWalker")))),
  fun K => PySem.W.isClsIn K (He.ga K "NoWalker"),
  fun K => decide (PySem.W.typeIn K (.ref (He.ga K "NoWalker")) = some (.type "type")),
  fun K => decide (PySem.W.nsIn K mainGlobals "NoName" = some (some (.ref (He.ga K "NoName")))),
  fun K => PySem.W.isClsIn K (He.ga K "NoName"),
  fun K => decide (PySem.W.typeIn K (.ref (He.ga K "NoName")) = some (.type "type")),
  fun K => decide (PySem.W.nsIn K mainGlobals "NothingLeft" = some (some (.ref (He.ga K "NothingLeft")))),
  fun K => PySem.W.isClsIn K (He.ga K "NothingLeft"),
  fun K => decide (PySem.W.typeIn K (.ref (He.ga K "NothingLeft")) = some (.type "type")),
  fun K => decide (PySem.W.nsIn K mainGlobals "Lost" = some (some (.ref (He.ga K "Lost")))),
  fun K => decide (PySem.W.nsIn K mainGlobals "FoldError" = some (some (.ref (He.ga K "FoldError")))),
  fun K => decide (PySem.W.subIn K (.ref (He.ga K "BadWeb")) (.type "BaseException") = some true),
  fun K => PySem.W.hasDictIn K (He.ga K "BadWeb"),
  fun K => decide (PySem.W.subIn K (.ref (He.ga K "BadWalk")) (.type "BaseException") = some true),
  fun K => PySem.W.hasDictIn K (He.ga K "BadWalk"),
  fun K => decide (PySem.W.subIn K (.ref (He.ga K "BadText")) (.type "BaseException") = some true),
  fun K => PySem.W.hasDictIn K (He.ga K "BadText"),
  fun K => decide (PySem.W.subIn K (.ref (He.ga K "BadTable")) (.type "BaseException") = some true),
  fun K => PySem.W.hasDictIn K (He.ga K "BadTable"),
  fun K => decide (PySem.W.subIn K (.ref (He.ga K "BadPage")) (.type "BaseException") = some true),
  fun K => PySem.W.hasDictIn K (He.ga K "BadPage"),
  fun K => decide (PySem.W.subIn K (.ref (He.ga K "TooMany")) (.type "BaseException") = some true),
  fun K => PySem.W.hasDictIn K (He.ga K "TooMany"),
  fun K => decide (PySem.W.subIn K (.ref (He.ga K "Used")) (.type "BaseException") = some true),
  fun K => PySem.W.hasDictIn K (He.ga K "Used"),
  fun K => decide (PySem.W.subIn K (.ref (He.ga K "Stopped")) (.type "BaseException") = some true),
  fun K => PySem.W.hasDictIn K (He.ga K "Stopped"),
  fun K => decide (PySem.W.subIn K (.ref (He.ga K "NothingLeft")) (.type "BaseException") = some true),
  fun K => PySem.W.hasDictIn K (He.ga K "NothingLeft"),
  fun K => decide (PySem.W.subIn K (.ref (He.ga K "Lost")) (.type "BaseException") = some true),
  fun K => PySem.W.hasDictIn K (He.ga K "Lost"),
  fun K => decide (PySem.W.subIn K (.ref (He.ga K "FoldError")) (.type "BaseException") = some true),
  fun K => PySem.W.hasDictIn K (He.ga K "FoldError"),
  fun K => decide (PySem.W.typeIn K (.ref (He.ga K "Lost")) = some (.type "type")),
  fun K => decide (PySem.W.typeIn K (.ref (He.ga K "FoldError")) = some (.type "type")),
  fun K => decide (PySem.W.specialIn K (.builtin "object.__class__") "__get__" = some (some (.builtin "getset_descriptor.__get__"))),
  fun K => decide (PySem.W.takesIn K (.builtin "object.__class__") = some true),
  fun K => decide (PySem.W.findIn K (.ref (He.ga K "BadWindow")) "__getattribute__" = some (some (.builtin "BaseException.__getattribute__"))),
  fun K => decide (PySem.W.findIn K (.ref (He.ga K "BadWindow")) "__getattr__" = some none),
  fun K => decide (PySem.W.subIn K (.ref (He.ga K "BadWindow")) (.type "BaseException") = some true),
  fun K => PySem.W.hasDictIn K (He.ga K "BadWindow"),
  fun K => decide (PySem.W.findIn K (.ref (He.ga K "BadWindow")) "__class__" = some (some (.builtin "object.__class__"))),
  fun K => decide (PySem.W.mroIn K (He.ga K "BadWindow") (.type "object") = some true),
  fun K => decide (PySem.W.findIn K (.ref (He.ga K "BadWindow")) "word" = some none),
  fun K => decide (PySem.W.findIn K (.ref (He.ga K "BadWindow")) "__setattr__" = some (some (.builtin "object.__setattr__"))),
  fun K => PySem.W.keepIn K (.ref (He.ga K "BadWindow")),
  fun K => excB K (He.ga K "BadWindow"),
  fun K => decide (PySem.W.subIn K (.ref (He.ga K "BadWindow")) (.ref (He.ga K "BadWeb")) = some false),
  fun K => decide ((He.ga K "BadWindow") ≠ (He.ga K "BadWeb")),
  fun K => decide (PySem.W.subIn K (.ref (He.ga K "BadWindow")) (.ref (He.ga K "BadRoom")) = some false)]
def fa3 : List Fct := [
  fun K => decide ((He.ga K "BadWindow") ≠ (He.ga K "BadRoom")),
  fun K => decide (PySem.W.subIn K (.ref (He.ga K "BadWindow")) (.ref (He.ga K "BadArrow")) = some false),
  fun K => decide ((He.ga K "BadWindow") ≠ (He.ga K "BadArrow")),
  fun K => decide (PySem.W.subIn K (.ref (He.ga K "BadWindow")) (.ref (He.ga K "BadFold")) = some false),
  fun K => decide ((He.ga K "BadWindow") ≠ (He.ga K "BadFold")),
  fun K => decide (PySem.W.subIn K (.ref (He.ga K "BadWindow")) (.ref (He.ga K "BadPart")) = some false),
  fun K => decide ((He.ga K "BadWindow") ≠ (He.ga K "BadPart")),
  fun K => decide (PySem.W.subIn K (.ref (He.ga K "BadWindow")) (.ref (He.ga K "BadNaming")) = some false),
  fun K => decide ((He.ga K "BadWindow") ≠ (He.ga K "BadNaming")),
  fun K => decide (PySem.W.subIn K (.ref (He.ga K "BadWindow")) (.ref (He.ga K "BadWalk")) = some false),
  fun K => decide ((He.ga K "BadWindow") ≠ (He.ga K "BadWalk")),
  fun K => decide (PySem.W.subIn K (.ref (He.ga K "BadWindow")) (.ref (He.ga K "BadBeat")) = some false),
  fun K => decide ((He.ga K "BadWindow") ≠ (He.ga K "BadBeat")),
  fun K => decide (PySem.W.subIn K (.ref (He.ga K "BadWindow")) (.ref (He.ga K "BadTable")) = some false),
  fun K => decide ((He.ga K "BadWindow") ≠ (He.ga K "BadTable")),
  fun K => decide (PySem.W.subIn K (.ref (He.ga K "BadWindow")) (.ref (He.ga K "Apart")) = some false),
  fun K => decide ((He.ga K "BadWindow") ≠ (He.ga K "Apart")),
  fun K => decide (PySem.W.subIn K (.ref (He.ga K "BadWindow")) (.ref (He.ga K "TooMany")) = some false),
  fun K => decide ((He.ga K "BadWindow") ≠ (He.ga K "TooMany")),
  fun K => decide (PySem.W.subIn K (.ref (He.ga K "BadWindow")) (.ref (He.ga K "NotBack")) = some false),
  fun K => decide ((He.ga K "BadWindow") ≠ (He.ga K "NotBack")),
  fun K => decide (PySem.W.subIn K (.ref (He.ga K "BadWindow")) (.ref (He.ga K "BadText")) = some false),
  fun K => decide ((He.ga K "BadWindow") ≠ (He.ga K "BadText")),
  fun K => decide (PySem.W.subIn K (.ref (He.ga K "BadWindow")) (.ref (He.ga K "BadName")) = some false),
  fun K => decide ((He.ga K "BadWindow") ≠ (He.ga K "BadName")),
  fun K => decide (PySem.W.subIn K (.ref (He.ga K "BadWindow")) (.ref (He.ga K "Taken")) = some false),
  fun K => decide ((He.ga K "BadWindow") ≠ (He.ga K "Taken")),
  fun K => decide (PySem.W.subIn K (.ref (He.ga K "BadWindow")) (.ref (He.ga K "Full")) = some false),
  fun K => decide ((He.ga K "BadWindow") ≠ (He.ga K "Full")),
  fun K => decide (PySem.W.subIn K (.ref (He.ga K "BadWindow")) (.ref (He.ga K "Wide")) = some false),
  fun K => decide ((He.ga K "BadWindow") ≠ (He.ga K "Wide")),
  fun K => decide (PySem.W.subIn K (.ref (He.ga K "BadWindow")) (.ref (He.ga K "Used")) = some false),
  fun K => decide ((He.ga K "BadWindow") ≠ (He.ga K "Used")),
  fun K => decide (PySem.W.subIn K (.ref (He.ga K "BadWindow")) (.ref (He.ga K "BadDeed")) = some false),
  fun K => decide ((He.ga K "BadWindow") ≠ (He.ga K "BadDeed")),
  fun K => decide (PySem.W.subIn K (.ref (He.ga K "BadWindow")) (.ref (He.ga K "Stopped")) = some false),
  fun K => decide ((He.ga K "BadWindow") ≠ (He.ga K "Stopped")),
  fun K => decide (PySem.W.subIn K (.ref (He.ga K "BadWindow")) (.ref (He.ga K "BadPage")) = some false),
  fun K => decide ((He.ga K "BadWindow") ≠ (He.ga K "BadPage")),
  fun K => decide (PySem.W.subIn K (.ref (He.ga K "BadWindow")) (.ref (He.ga K "NoWeb")) = some false),
  fun K => decide ((He.ga K "BadWindow") ≠ (He.ga K "NoWeb")),
  fun K => decide (PySem.W.subIn K (.ref (He.ga K "BadWindow")) (.ref (He.ga K "NoReader")) = some false),
  fun K => decide ((He.ga K "BadWindow") ≠ (He.ga K "NoReader")),
  fun K => decide (PySem.W.subIn K (.ref (He.ga K "BadWindow")) (.ref (He.ga K "NoWalker")) = some false),
  fun K => decide ((He.ga K "BadWindow") ≠ (He.ga K "NoWalker")),
  fun K => decide (PySem.W.subIn K (.ref (He.ga K "BadWindow")) (.ref (He.ga K "NoName")) = some false),
  fun K => decide ((He.ga K "BadWindow") ≠ (He.ga K "NoName")),
  fun K => decide (PySem.W.subIn K (.ref (He.ga K "BadWindow")) (.ref (He.ga K "NothingLeft")) = some false),
  fun K => decide ((He.ga K "BadWindow") ≠ (He.ga K "NothingLeft")),
  fun K => decide (PySem.W.subIn K (.ref (He.ga K "BadWindow")) (.ref (He.ga K "Lost")) = some false),
  fun K => decide (PySem.W.subIn K (.ref (He.ga K "BadWindow")) (.ref (He.ga K "FoldError")) = some true),
  fun K => decide (PySem.W.findIn K (.ref (He.ga K "TooMany")) "__getattribute__" = some (some (.builtin "BaseException.__getattribute__"))),
  fun K => decide (PySem.W.findIn K (.ref (He.ga K "TooMany")) "__getattr__" = some none),
  fun K => decide (PySem.W.subIn K (.ref (He.ga K "TooMany")) (.type "BaseException") = some true),
  fun K => PySem.W.hasDictIn K (He.ga K "TooMany"),
  fun K => decide (PySem.W.findIn K (.ref (He.ga K "TooMany")) "__class__" = some (some (.builtin "object.__class__"))),
  fun K => decide (PySem.W.mroIn K (He.ga K "TooMany") (.type "object") = some true),
  fun K => decide (PySem.W.findIn K (.ref (He.ga K "TooMany")) "word" = some none),
  fun K => decide (PySem.W.findIn K (.ref (He.ga K "TooMany")) "__setattr__" = some (some (.builtin "object.__setattr__"))),
  fun K => PySem.W.keepIn K (.ref (He.ga K "TooMany"))]
def fa4 : List Fct := [
  fun K => decide (PySem.W.findIn K (.ref (He.ga K "TooMany")) "most" = some none),
  fun K => excB K (He.ga K "TooMany"),
  fun K => decide (PySem.W.subIn K (.ref (He.ga K "TooMany")) (.ref (He.ga K "BadWeb")) = some false),
  fun K => decide ((He.ga K "TooMany") ≠ (He.ga K "BadWeb")),
  fun K => decide (PySem.W.subIn K (.ref (He.ga K "TooMany")) (.ref (He.ga K "BadRoom")) = some false),
  fun K => decide ((He.ga K "TooMany") ≠ (He.ga K "BadRoom")),
  fun K => decide (PySem.W.subIn K (.ref (He.ga K "TooMany")) (.ref (He.ga K "BadArrow")) = some false),
  fun K => decide ((He.ga K "TooMany") ≠ (He.ga K "BadArrow")),
  fun K => decide (PySem.W.subIn K (.ref (He.ga K "TooMany")) (.ref (He.ga K "BadFold")) = some false),
  fun K => decide ((He.ga K "TooMany") ≠ (He.ga K "BadFold")),
  fun K => decide (PySem.W.subIn K (.ref (He.ga K "TooMany")) (.ref (He.ga K "BadPart")) = some false),
  fun K => decide ((He.ga K "TooMany") ≠ (He.ga K "BadPart")),
  fun K => decide (PySem.W.subIn K (.ref (He.ga K "TooMany")) (.ref (He.ga K "BadNaming")) = some false),
  fun K => decide ((He.ga K "TooMany") ≠ (He.ga K "BadNaming")),
  fun K => decide (PySem.W.subIn K (.ref (He.ga K "TooMany")) (.ref (He.ga K "BadWalk")) = some false),
  fun K => decide ((He.ga K "TooMany") ≠ (He.ga K "BadWalk")),
  fun K => decide (PySem.W.subIn K (.ref (He.ga K "TooMany")) (.ref (He.ga K "BadBeat")) = some false),
  fun K => decide ((He.ga K "TooMany") ≠ (He.ga K "BadBeat")),
  fun K => decide (PySem.W.subIn K (.ref (He.ga K "TooMany")) (.ref (He.ga K "BadWindow")) = some false),
  fun K => decide ((He.ga K "TooMany") ≠ (He.ga K "BadWindow")),
  fun K => decide (PySem.W.subIn K (.ref (He.ga K "TooMany")) (.ref (He.ga K "BadTable")) = some false),
  fun K => decide ((He.ga K "TooMany") ≠ (He.ga K "BadTable")),
  fun K => decide (PySem.W.subIn K (.ref (He.ga K "TooMany")) (.ref (He.ga K "Apart")) = some false),
  fun K => decide ((He.ga K "TooMany") ≠ (He.ga K "Apart")),
  fun K => decide (PySem.W.subIn K (.ref (He.ga K "TooMany")) (.ref (He.ga K "NotBack")) = some false),
  fun K => decide ((He.ga K "TooMany") ≠ (He.ga K "NotBack")),
  fun K => decide (PySem.W.subIn K (.ref (He.ga K "TooMany")) (.ref (He.ga K "BadText")) = some false),
  fun K => decide ((He.ga K "TooMany") ≠ (He.ga K "BadText")),
  fun K => decide (PySem.W.subIn K (.ref (He.ga K "TooMany")) (.ref (He.ga K "BadName")) = some false),
  fun K => decide ((He.ga K "TooMany") ≠ (He.ga K "BadName")),
  fun K => decide (PySem.W.subIn K (.ref (He.ga K "TooMany")) (.ref (He.ga K "Taken")) = some false),
  fun K => decide ((He.ga K "TooMany") ≠ (He.ga K "Taken")),
  fun K => decide (PySem.W.subIn K (.ref (He.ga K "TooMany")) (.ref (He.ga K "Full")) = some false),
  fun K => decide ((He.ga K "TooMany") ≠ (He.ga K "Full")),
  fun K => decide (PySem.W.subIn K (.ref (He.ga K "TooMany")) (.ref (He.ga K "Wide")) = some false),
  fun K => decide ((He.ga K "TooMany") ≠ (He.ga K "Wide")),
  fun K => decide (PySem.W.subIn K (.ref (He.ga K "TooMany")) (.ref (He.ga K "Used")) = some false),
  fun K => decide ((He.ga K "TooMany") ≠ (He.ga K "Used")),
  fun K => decide (PySem.W.subIn K (.ref (He.ga K "TooMany")) (.ref (He.ga K "BadDeed")) = some false),
  fun K => decide ((He.ga K "TooMany") ≠ (He.ga K "BadDeed")),
  fun K => decide (PySem.W.subIn K (.ref (He.ga K "TooMany")) (.ref (He.ga K "Stopped")) = some false),
  fun K => decide ((He.ga K "TooMany") ≠ (He.ga K "Stopped")),
  fun K => decide (PySem.W.subIn K (.ref (He.ga K "TooMany")) (.ref (He.ga K "BadPage")) = some false),
  fun K => decide ((He.ga K "TooMany") ≠ (He.ga K "BadPage")),
  fun K => decide (PySem.W.subIn K (.ref (He.ga K "TooMany")) (.ref (He.ga K "NoWeb")) = some false),
  fun K => decide ((He.ga K "TooMany") ≠ (He.ga K "NoWeb")),
  fun K => decide (PySem.W.subIn K (.ref (He.ga K "TooMany")) (.ref (He.ga K "NoReader")) = some false),
  fun K => decide ((He.ga K "TooMany") ≠ (He.ga K "NoReader")),
  fun K => decide (PySem.W.subIn K (.ref (He.ga K "TooMany")) (.ref (He.ga K "NoWalker")) = some false),
  fun K => decide ((He.ga K "TooMany") ≠ (He.ga K "NoWalker")),
  fun K => decide (PySem.W.subIn K (.ref (He.ga K "TooMany")) (.ref (He.ga K "NoName")) = some false),
  fun K => decide ((He.ga K "TooMany") ≠ (He.ga K "NoName")),
  fun K => decide (PySem.W.subIn K (.ref (He.ga K "TooMany")) (.ref (He.ga K "NothingLeft")) = some false),
  fun K => decide ((He.ga K "TooMany") ≠ (He.ga K "NothingLeft")),
  fun K => decide (PySem.W.subIn K (.ref (He.ga K "TooMany")) (.ref (He.ga K "Lost")) = some false),
  fun K => decide (PySem.W.subIn K (.ref (He.ga K "TooMany")) (.ref (He.ga K "FoldError")) = some true),
  fun K => decide (PySem.W.subIn K (.ref (He.ga K "TooMany")) (.ref (He.ga K "TooMany")) = some true),
  fun K => PySem.W.readsIn K (He.ga K "FoldError") (.type "type"),
  fun K => decide (PySem.W.specialIn K (.ref (He.ga K "FoldError")) "__getattribute__" = some (some (.builtin "type.__getattribute__"))),
  fun K => clsB K (.ref (He.ga K "FoldError")) (.type "type") "__init__" (.ref (He.ma K (He.ga K "FoldError") "__init__"))]
def fa5 : List Fct := [
  fun K => clsB K (.type "ValueError") (.type "type") "__init__" (.builtin "ValueError.__init__"),
  fun K => decide (PySem.W.nsIn K mainGlobals "ValueError" = some none),
  fun K => decide (PySem.W.findIn K (.ref (He.ga K "FoldError")) "__init__" = some (some (.ref (He.ma K (He.ga K "FoldError") "__init__")))),
  fun K => PySem.W.isFn K (.ref (He.ma K (He.ga K "FoldError") "__init__")),
  fun K => decide (PySem.W.findIn K (.ref (He.ga K "BadWindow")) "__init__" = some (some (.ref (He.ma K (He.ga K "BadWindow") "__init__")))),
  fun K => PySem.W.isFn K (.ref (He.ma K (He.ga K "BadWindow") "__init__")),
  fun K => decide (PySem.W.findIn K (.ref (He.ga K "TooMany")) "__init__" = some (some (.ref (He.ma K (He.ga K "TooMany") "__init__")))),
  fun K => PySem.W.isFn K (.ref (He.ma K (He.ga K "TooMany") "__init__")),
  fun K => decide (PySem.W.typeIn K (.ref (He.ma K (He.ga K "BadWindow") "__init__")) = some (.type "function")),
  fun K => decide (PySem.W.typeIn K (.ref (He.ma K (He.ga K "TooMany") "__init__")) = some (.type "function")),
  fun K => (He.Fa.int "MOST_ROOMS" 100).ok K,
  fun K => (He.Fa.int "MOST_ARROWS" 400).ok K,
  fun K => (He.Fa.int "MOST_LENGTH" 60).ok K,
  fun K => (He.Fa.int "MOST_WINDOW" 6).ok K,
  fun K => (He.Fa.int "MOST_ROWS" 600).ok K,
  fun K => decide (PySem.W.nsIn K mainGlobals "law" = some (some (.ref (He.ga K "law")))),
  fun K => lawB K (He.ga K "law")]
def faAll : List Fct := fa0 ++ fa1 ++ fa2 ++ fa3 ++ fa4 ++ fa5
def fnAll : List He.DefD := [dA1, dA2, dA3, dA4, dA5, dA6, dA7, dA8, dA9, dB1, dB2, dB3, dB4, dD1, dD3, dD4, dD5, dD6, dD7, dM1, dM2, dM3, dM4, dM5, dM6, dM7, dM8, dFF, dR1, dR2, dLW]
def lo0 : List Str := ["_wall", "__name__", "FoldError", "Lost", "NothingLeft", "BadWeb", "BadRoom", "BadArrow", "BadFold", "BadPart", "BadNaming", "BadWalk", "BadBeat", "BadWindow", "BadTable", "Apart", "TooMany", "NotBack", "BadText", "BadName", "Taken", "Full", "Wide", "Used", "BadDeed", "Stopped", "BadPage", "NoWeb", "NoReader", "NoWalker"]
def lo1 : List Str := ["NoName", "MOST_ROOMS", "MOST_ARROWS", "MOST_ROWS", "MOST_WINDOW", "MOST_LENGTH", "is_pair", "pairs_of", "gathered", "Web", "_law_bag", "_law_pull", "_law_of", "_law_same", "_law_kind", "_law_told", "_law_far", "_law_mixed", "_law_web", "_law_made", "_law_outs", "_law_on", "_law_many", "_law_rows", "_law_is_row", "_law_walk"]
def loAll : List Str := lo0 ++ lo1
abbrev RR : PySem.W.OpenRow := PySem.W.OpenLaw.row PySem.Challenge.rw_aheadfold_k03_rows_of_webs
abbrev hkM : PySem.W.Hook := hookM 4 faAll fnAll
def obM (st : PySem.W.SharedT) : He.AlD := obsMG 4 faAll fnAll (HandSHeadRun.getT st)
theorem obM_eq (st : PySem.W.SharedT) : obM st = hkM.obs st.abs := obsMG_eq (HandSHeadRun.getT_eq st)
set_option maxHeartbeats 0 in
theorem runM (w : World) : HandSHeadRun.RunEq RR (PySem.W.view RR.prog [58]) hkM obM 20000 loAll w := by
  intro os
  kernel_rfl
theorem factsM {l : PySem.W.OpenLaw} {w : World} {K : PySem.W.Frag} {h : Heap} {mg : Str → Option Value} {fa : Addr} (X : K.In h) (G : h.Ns mainGlobals mg) (hfa : mg "law" = some (.ref fa)) (c : SaysM faAll fnAll K) (own : OwnTab K fa h) :
    LawAtS l w K L2.CX0 8 63 "_law_script" mg fa h := by
  have zlen : PySem.W.nsIn K mainGlobals "len" = some none := of_decide_eq_true (c.fact 0 rfl)
  have glen := PySem.W.mg_none_of X G zlen
  have zlist : PySem.W.nsIn K mainGlobals "list" = some none := of_decide_eq_true (c.fact 1 rfl)
  have glist := PySem.W.mg_none_of X G zlist
  have ztuple : PySem.W.nsIn K mainGlobals "tuple" = some none := of_decide_eq_true (c.fact 2 rfl)
  have gtuple := PySem.W.mg_none_of X G ztuple
  have zrange : PySem.W.nsIn K mainGlobals "range" = some none := of_decide_eq_true (c.fact 3 rfl)
  have grange := PySem.W.mg_none_of X G zrange
  have zenumerate : PySem.W.nsIn K mainGlobals "enumerate" = some none := of_decide_eq_true (c.fact 4 rfl)
  have genumerate := PySem.W.mg_none_of X G zenumerate
  have zisinstance : PySem.W.nsIn K mainGlobals "isinstance" = some none := of_decide_eq_true (c.fact 5 rfl)
  have gisinstance := PySem.W.mg_none_of X G zisinstance
  have zzip : PySem.W.nsIn K mainGlobals "zip" = some none := of_decide_eq_true (c.fact 6 rfl)
  have gzip := PySem.W.mg_none_of X G zzip
  have zall : PySem.W.nsIn K mainGlobals "all" = some none := of_decide_eq_true (c.fact 7 rfl)
  have gall := PySem.W.mg_none_of X G zall
  have zbool : PySem.W.nsIn K mainGlobals "bool" = some none := of_decide_eq_true (c.fact 8 rfl)
  have gbool := PySem.W.mg_none_of X G zbool
  have zint : PySem.W.nsIn K mainGlobals "int" = some none := of_decide_eq_true (c.fact 9 rfl)
  have gint := PySem.W.mg_none_of X G zint
  have zstr : PySem.W.nsIn K mainGlobals "str" = some none := of_decide_eq_true (c.fact 10 rfl)
  have gstr := PySem.W.mg_none_of X G zstr
  have zsum : PySem.W.nsIn K mainGlobals "sum" = some none := of_decide_eq_true (c.fact 11 rfl)
  have gsum := PySem.W.mg_none_of X G zsum
  have aC : PySem.W.nsIn K mainGlobals "Web" = some (some (.ref (He.ga K "Web"))) := of_decide_eq_true (c.fact 12 rfl)
  have mC := PySem.W.mg_of X G aC
  have Cpg : PySem.W.plainGet K (He.ga K "Web") Str.empty = true := c.fact 13 rfl
  have Chd : PySem.W.hasDictIn K (He.ga K "Web") = true := c.fact 14 rfl
  have Cpo : PySem.W.plainOver K (He.ga K "Web") = true := c.fact 15 rfl
  have Csa : PySem.W.findIn K (.ref (He.ga K "Web")) "__setattr__" = some (some (.builtin "object.__setattr__")) := of_decide_eq_true (c.fact 16 rfl)
  have Cmk : PySem.W.makesIn K (He.ga K "Web") = true := c.fact 17 rfl
  have Ckc : PySem.W.keepIn K (.ref (He.ga K "Web")) = true := c.fact 18 rfl
  have Cn0 : PySem.W.findIn K (.ref (He.ga K "Web")) "room_total" = some none := of_decide_eq_true (c.fact 19 rfl)
  have Cn1 : PySem.W.findIn K (.ref (He.ga K "Web")) "pairs" = some none := of_decide_eq_true (c.fact 20 rfl)
  have Cn2 : PySem.W.findIn K (.ref (He.ga K "Web")) "leaving" = some none := of_decide_eq_true (c.fact 21 rfl)
  have Cn3 : PySem.W.findIn K (.ref (He.ga K "Web")) "entering" = some none := of_decide_eq_true (c.fact 22 rfl)
  have Ccl : Cls K (He.ga K "Web") := ⟨Cpg, Chd, Cpo, Csa⟩
  have T : WebC K (He.ga K "Web") := ⟨Ccl, Cn0, Cn1, Cn2, Cn3⟩
  have aA1 : PySem.W.nsIn K mainGlobals "is_pair" = some (some (.ref (He.ga K "is_pair"))) := of_decide_eq_true (c.fact 23 rfl)
  obtain ⟨fdA1, DA1⟩ := c.def_ 0 (d := dA1) rfl
  have FA1 : Fun K "is_pair" "is_pair" sIsPair (He.ga K "is_pair") fdA1 := fun_of DA1
  have kA1 := FA1.kp
  have bA1 := FA1.binds (ps := ["thing", "rooms"]) fun _ _ _ _ _ _ us hl => match us, hl with | [_, _], _ => rfl
  have mA1 := PySem.W.mg_of X G aA1
  have aA2 : PySem.W.nsIn K mainGlobals "pairs_of" = some (some (.ref (He.ga K "pairs_of"))) := of_decide_eq_true (c.fact 24 rfl)
  obtain ⟨fdA2, DA2⟩ := c.def_ 1 (d := dA2) rfl
  have FA2 : Fun K "pairs_of" "pairs_of" sPairsOf (He.ga K "pairs_of") fdA2 := fun_of DA2
  have kA2 := FA2.kp
  have bA2 := FA2.binds (ps := ["rooms", "arrows"]) fun _ _ _ _ _ _ us hl => match us, hl with | [_, _], _ => rfl
  have mA2 := PySem.W.mg_of X G aA2
  have aA3 : PySem.W.nsIn K mainGlobals "gathered" = some (some (.ref (He.ga K "gathered"))) := of_decide_eq_true (c.fact 25 rfl)
  obtain ⟨fdA3, DA3⟩ := c.def_ 2 (d := dA3) rfl
  have FA3 : Fun K "gathered" "gathered" sGathered (He.ga K "gathered") fdA3 := fun_of DA3
  have kA3 := FA3.kp
  have bA3 := FA3.binds (ps := ["rooms", "places"]) fun _ _ _ _ _ _ us hl => match us, hl with | [_, _], _ => rfl
  have mA3 := PySem.W.mg_of X G aA3
  have aA4 : PySem.W.nsIn K mainGlobals "_law_bag" = some (some (.ref (He.ga K "_law_bag"))) := of_decide_eq_true (c.fact 26 rfl)
  obtain ⟨fdA4, DA4⟩ := c.def_ 3 (d := dA4) rfl
  have FA4 : Fun K "_law_bag" "_law_bag" sBag (He.ga K "_law_bag") fdA4 := fun_of DA4
  have kA4 := FA4.kp
  have bA4 := FA4.binds (ps := ["_law_script"]) fun _ _ _ _ _ _ us hl => match us, hl with | [_], _ => rfl
  have mA4 := PySem.W.mg_of X G aA4
  have aA5 : PySem.W.nsIn K mainGlobals "_law_pull" = some (some (.ref (He.ga K "_law_pull"))) := of_decide_eq_true (c.fact 27 rfl)
  obtain ⟨fdA5, DA5⟩ := c.def_ 4 (d := dA5) rfl
  have FA5 : Fun K "_law_pull" "_law_pull" sPull (He.ga K "_law_pull") fdA5 := fun_of DA5
  have kA5 := FA5.kp
  have bA5 := FA5.binds (ps := ["_law_bag_here", "_law_many_here"]) fun _ _ _ _ _ _ us hl => match us, hl with | [_, _], _ => rfl
  have mA5 := PySem.W.mg_of X G aA5
  have aA6 : PySem.W.nsIn K mainGlobals "_law_of" = some (some (.ref (He.ga K "_law_of"))) := of_decide_eq_true (c.fact 28 rfl)
  obtain ⟨fdA6, DA6⟩ := c.def_ 5 (d := dA6) rfl
  have FA6 : Fun K "_law_of" "_law_of" sOf (He.ga K "_law_of") fdA6 := fun_of DA6
  have kA6 := FA6.kp
  have bA6 := FA6.binds (ps := ["_law_bag_here", "_law_some"]) fun _ _ _ _ _ _ us hl => match us, hl with | [_, _], _ => rfl
  have mA6 := PySem.W.mg_of X G aA6
  have aA7 : PySem.W.nsIn K mainGlobals "_law_mixed" = some (some (.ref (He.ga K "_law_mixed"))) := of_decide_eq_true (c.fact 29 rfl)
  obtain ⟨fdA7, DA7⟩ := c.def_ 6 (d := dA7) rfl
  have FA7 : Fun K "_law_mixed" "_law_mixed" sMixed (He.ga K "_law_mixed") fdA7 := fun_of DA7
  have kA7 := FA7.kp
  have bA7 := FA7.binds (ps := ["_law_bag_here", "_law_some"]) fun _ _ _ _ _ _ us hl => match us, hl with | [_, _], _ => rfl
  have mA7 := PySem.W.mg_of X G aA7
  have aA8 : PySem.W.nsIn K mainGlobals "_law_web" = some (some (.ref (He.ga K "_law_web"))) := of_decide_eq_true (c.fact 30 rfl)
  obtain ⟨fdA8, DA8⟩ := c.def_ 7 (d := dA8) rfl
  have FA8 : Fun K "_law_web" "_law_web" sWeb (He.ga K "_law_web") fdA8 := fun_of DA8
  have kA8 := FA8.kp
  have bA8 := FA8.binds (ps := ["_law_bag_here", "_law_rooms_most", "_law_more_most"]) fun _ _ _ _ _ _ us hl => match us, hl with | [_, _, _], _ => rfl
  have mA8 := PySem.W.mg_of X G aA8
  have aA9 : PySem.W.nsIn K mainGlobals "_law_made" = some (some (.ref (He.ga K "_law_made"))) := of_decide_eq_true (c.fact 31 rfl)
  obtain ⟨fdA9, DA9⟩ := c.def_ 8 (d := dA9) rfl
  have FA9 : Fun K "_law_made" "_law_made" sMade (He.ga K "_law_made") fdA9 := fun_of DA9
  have kA9 := FA9.kp
  have bA9 := FA9.binds (ps := ["_law_w"]) fun _ _ _ _ _ _ us hl => match us, hl with | [_], _ => rfl
  have mA9 := PySem.W.mg_of X G aA9
  have aB1 : PySem.W.nsIn K mainGlobals "_law_far" = some (some (.ref (He.ga K "_law_far"))) := of_decide_eq_true (c.fact 32 rfl)
  obtain ⟨fdB1, DB1⟩ := c.def_ 9 (d := dB1) rfl
  have FB1 : Fun K "_law_far" "_law_far" sFar (He.ga K "_law_far") fdB1 := fun_of DB1
  have kB1 := FB1.kp
  have bB1 := FB1.binds (ps := ["_law_bag_here"]) fun _ _ _ _ _ _ us hl => match us, hl with | [_], _ => rfl
  have mB1 := PySem.W.mg_of X G aB1
  have aB2 : PySem.W.nsIn K mainGlobals "_law_kind" = some (some (.ref (He.ga K "_law_kind"))) := of_decide_eq_true (c.fact 33 rfl)
  obtain ⟨fdB2, DB2⟩ := c.def_ 10 (d := dB2) rfl
  have FB2 : Fun K "_law_kind" "_law_kind" sKind (He.ga K "_law_kind") fdB2 := fun_of DB2
  have kB2 := FB2.kp
  have bB2 := FB2.binds (ps := ["_law_e"]) fun _ _ _ _ _ _ us hl => match us, hl with | [_], _ => rfl
  have mB2 := PySem.W.mg_of X G aB2
  have aB3 : PySem.W.nsIn K mainGlobals "_law_told" = some (some (.ref (He.ga K "_law_told"))) := of_decide_eq_true (c.fact 34 rfl)
  obtain ⟨fdB3, DB3⟩ := c.def_ 11 (d := dB3) rfl
  have FB3 : Fun K "_law_told" "_law_told" sTold (He.ga K "_law_told") fdB3 := fun_of DB3
  have kB3 := FB3.kp
  have bB3 := FB3.binds (ps := ["_law_ask"]) fun _ _ _ _ _ _ us hl => match us, hl with | [_], _ => rfl
  have mB3 := PySem.W.mg_of X G aB3
  have aB4 : PySem.W.nsIn K mainGlobals "_law_same" = some (some (.ref (He.ga K "_law_same"))) := of_decide_eq_true (c.fact 35 rfl)
  obtain ⟨fdB4, DB4⟩ := c.def_ 12 (d := dB4) rfl
  have FB4 : Fun K "_law_same" "_law_same" sSame (He.ga K "_law_same") fdB4 := fun_of DB4
  have kB4 := FB4.kp
  have bB4 := FB4.binds (ps := ["_law_found", "_law_due"]) fun _ _ _ _ _ _ us hl => match us, hl with | [_, _], _ => rfl
  have mB4 := PySem.W.mg_of X G aB4
  have aD1 : PySem.W.nsIn K mainGlobals "_law_outs" = some (some (.ref (He.ga K "_law_outs"))) := of_decide_eq_true (c.fact 36 rfl)
  obtain ⟨fdD1, DD1⟩ := c.def_ 13 (d := dD1) rfl
  have FD1 : Fun K "_law_outs" "_law_outs" sLOuts (He.ga K "_law_outs") fdD1 := fun_of DD1
  have kD1 := FD1.kp
  have bD1 := FD1.binds (ps := ["_law_w", "_law_room"]) fun _ _ _ _ _ _ us hl => match us, hl with | [_, _], _ => rfl
  have mD1 := PySem.W.mg_of X G aD1
  have aD3 : PySem.W.nsIn K mainGlobals "_law_on" = some (some (.ref (He.ga K "_law_on"))) := of_decide_eq_true (c.fact 37 rfl)
  obtain ⟨fdD3, DD3⟩ := c.def_ 14 (d := dD3) rfl
  have FD3 : Fun K "_law_on" "_law_on" sLOn (He.ga K "_law_on") fdD3 := fun_of DD3
  have kD3 := FD3.kp
  have bD3 := FD3.binds (ps := ["_law_w", "_law_arrow"]) fun _ _ _ _ _ _ us hl => match us, hl with | [_, _], _ => rfl
  have mD3 := PySem.W.mg_of X G aD3
  have aD4 : PySem.W.nsIn K mainGlobals "_law_many" = some (some (.ref (He.ga K "_law_many"))) := of_decide_eq_true (c.fact 38 rfl)
  obtain ⟨fdD4, DD4⟩ := c.def_ 15 (d := dD4) rfl
  have FD4 : Fun K "_law_many" "_law_many" sLMany (He.ga K "_law_many") fdD4 := fun_of DD4
  have kD4 := FD4.kp
  have bD4 := FD4.binds (ps := ["_law_w", "_law_length"]) fun _ _ _ _ _ _ us hl => match us, hl with | [_, _], _ => rfl
  have mD4 := PySem.W.mg_of X G aD4
  have aD5 : PySem.W.nsIn K mainGlobals "_law_rows" = some (some (.ref (He.ga K "_law_rows"))) := of_decide_eq_true (c.fact 39 rfl)
  obtain ⟨fdD5, DD5⟩ := c.def_ 16 (d := dD5) rfl
  have FD5 : Fun K "_law_rows" "_law_rows" sLRows (He.ga K "_law_rows") fdD5 := fun_of DD5
  have kD5 := FD5.kp
  have bD5 := FD5.binds (ps := ["_law_w", "_law_length"]) fun _ _ _ _ _ _ us hl => match us, hl with | [_, _], _ => rfl
  have mD5 := PySem.W.mg_of X G aD5
  have aD6 : PySem.W.nsIn K mainGlobals "_law_is_row" = some (some (.ref (He.ga K "_law_is_row"))) := of_decide_eq_true (c.fact 40 rfl)
  obtain ⟨fdD6, DD6⟩ := c.def_ 17 (d := dD6) rfl
  have FD6 : Fun K "_law_is_row" "_law_is_row" sLIsRow (He.ga K "_law_is_row") fdD6 := fun_of DD6
  have kD6 := FD6.kp
  have bD6 := FD6.binds (ps := ["_law_w", "_law_row"]) fun _ _ _ _ _ _ us hl => match us, hl with | [_, _], _ => rfl
  have mD6 := PySem.W.mg_of X G aD6
  have aD7 : PySem.W.nsIn K mainGlobals "_law_walk" = some (some (.ref (He.ga K "_law_walk"))) := of_decide_eq_true (c.fact 41 rfl)
  obtain ⟨fdD7, DD7⟩ := c.def_ 18 (d := dD7) rfl
  have FD7 : Fun K "_law_walk" "_law_walk" sLWalk (He.ga K "_law_walk") fdD7 := fun_of DD7
  have kD7 := FD7.kp
  have bD7 := FD7.binds (ps := ["_law_bag_here", "_law_w"]) fun _ _ _ _ _ _ us hl => match us, hl with | [_, _], _ => rfl
  have mD7 := PySem.W.mg_of X G aD7
  have aM1 : PySem.W.findIn K (.ref (He.ga K "Web")) "__init__" = some (some (.ref (He.ma K (He.ga K "Web") "__init__"))) := of_decide_eq_true (c.fact 42 rfl)
  have iM1 : PySem.W.isFn K (.ref (He.ma K (He.ga K "Web") "__init__")) = true := c.fact 43 rfl
  obtain ⟨fdM1, DM1⟩ := c.def_ 19 (d := dM1) rfl
  have FM1 : Fun K "__init__" "Web.__init__" sInit (He.ma K (He.ga K "Web") "__init__") fdM1 := fun_of DM1
  have kM1 := FM1.kp
  have bM1 := FM1.binds (ps := ["self", "rooms", "arrows"]) fun _ _ _ _ _ _ us hl => match us, hl with | [_, _, _], _ => rfl
  have mM1 : Meth K (He.ga K "Web") "__init__" (He.ma K (He.ga K "Web") "__init__") := ⟨aM1, iM1, kM1⟩
  have aM2 : PySem.W.findIn K (.ref (He.ga K "Web")) "many" = some (some (.ref (He.ma K (He.ga K "Web") "many"))) := of_decide_eq_true (c.fact 44 rfl)
  have iM2 : PySem.W.isFn K (.ref (He.ma K (He.ga K "Web") "many")) = true := c.fact 45 rfl
  obtain ⟨fdM2, DM2⟩ := c.def_ 20 (d := dM2) rfl
  have FM2 : Fun K "many" "Web.many" sMany (He.ma K (He.ga K "Web") "many") fdM2 := fun_of DM2
  have kM2 := FM2.kp
  have bM2 := FM2.binds (ps := ["self", "length"]) fun _ _ _ _ _ _ us hl => match us, hl with | [_, _], _ => rfl
  have mM2 : Meth K (He.ga K "Web") "many" (He.ma K (He.ga K "Web") "many") := ⟨aM2, iM2, kM2⟩
  have aM3 : PySem.W.findIn K (.ref (He.ga K "Web")) "rows" = some (some (.ref (He.ma K (He.ga K "Web") "rows"))) := of_decide_eq_true (c.fact 46 rfl)
  have iM3 : PySem.W.isFn K (.ref (He.ma K (He.ga K "Web") "rows")) = true := c.fact 47 rfl
  obtain ⟨fdM3, DM3⟩ := c.def_ 21 (d := dM3) rfl
  have FM3 : Fun K "rows" "Web.rows" sWRows (He.ma K (He.ga K "Web") "rows") fdM3 := fun_of DM3
  have kM3 := FM3.kp
  have bM3 := FM3.binds (ps := ["self", "length"]) fun _ _ _ _ _ _ us hl => match us, hl with | [_, _], _ => rfl
  have mM3 : Meth K (He.ga K "Web") "rows" (He.ma K (He.ga K "Web") "rows") := ⟨aM3, iM3, kM3⟩
  have aM4 : PySem.W.findIn K (.ref (He.ga K "Web")) "after" = some (some (.ref (He.ma K (He.ga K "Web") "after"))) := of_decide_eq_true (c.fact 48 rfl)
  have iM4 : PySem.W.isFn K (.ref (He.ma K (He.ga K "Web") "after")) = true := c.fact 49 rfl
  obtain ⟨fdM4, DM4⟩ := c.def_ 22 (d := dM4) rfl
  have FM4 : Fun K "after" "Web.after" sAfter (He.ma K (He.ga K "Web") "after") fdM4 := fun_of DM4
  have kM4 := FM4.kp
  have bM4 := FM4.binds (ps := ["self", "arrow"]) fun _ _ _ _ _ _ us hl => match us, hl with | [_, _], _ => rfl
  have mM4 : Meth K (He.ga K "Web") "after" (He.ma K (He.ga K "Web") "after") := ⟨aM4, iM4, kM4⟩
  have aM5 : PySem.W.findIn K (.ref (He.ga K "Web")) "has_arrow" = some (some (.ref (He.ma K (He.ga K "Web") "has_arrow"))) := of_decide_eq_true (c.fact 50 rfl)
  have iM5 : PySem.W.isFn K (.ref (He.ma K (He.ga K "Web") "has_arrow")) = true := c.fact 51 rfl
  obtain ⟨fdM5, DM5⟩ := c.def_ 23 (d := dM5) rfl
  have FM5 : Fun K "has_arrow" "Web.has_arrow" sHas (He.ma K (He.ga K "Web") "has_arrow") fdM5 := fun_of DM5
  have kM5 := FM5.kp
  have bM5 := FM5.binds (ps := ["self", "arrow"]) fun _ _ _ _ _ _ us hl => match us, hl with | [_, _], _ => rfl
  have mM5 : Meth K (He.ga K "Web") "has_arrow" (He.ma K (He.ga K "Web") "has_arrow") := ⟨aM5, iM5, kM5⟩
  have aM6 : PySem.W.findIn K (.ref (He.ga K "Web")) "follows" = some (some (.ref (He.ma K (He.ga K "Web") "follows"))) := of_decide_eq_true (c.fact 52 rfl)
  have iM6 : PySem.W.isFn K (.ref (He.ma K (He.ga K "Web") "follows")) = true := c.fact 53 rfl
  obtain ⟨fdM6, DM6⟩ := c.def_ 24 (d := dM6) rfl
  have FM6 : Fun K "follows" "Web.follows" sFollows (He.ma K (He.ga K "Web") "follows") fdM6 := fun_of DM6
  have kM6 := FM6.kp
  have bM6 := FM6.binds (ps := ["self", "arrow", "ahead"]) fun _ _ _ _ _ _ us hl => match us, hl with | [_, _, _], _ => rfl
  have mM6 : Meth K (He.ga K "Web") "follows" (He.ma K (He.ga K "Web") "follows") := ⟨aM6, iM6, kM6⟩
  have aM7 : PySem.W.findIn K (.ref (He.ga K "Web")) "wrong_place" = some (some (.ref (He.ma K (He.ga K "Web") "wrong_place"))) := of_decide_eq_true (c.fact 54 rfl)
  have iM7 : PySem.W.isFn K (.ref (He.ma K (He.ga K "Web") "wrong_place")) = true := c.fact 55 rfl
  obtain ⟨fdM7, DM7⟩ := c.def_ 25 (d := dM7) rfl
  have FM7 : Fun K "wrong_place" "Web.wrong_place" sWrongPl (He.ma K (He.ga K "Web") "wrong_place") fdM7 := fun_of DM7
  have kM7 := FM7.kp
  have bM7 := FM7.binds (ps := ["self", "row"]) fun _ _ _ _ _ _ us hl => match us, hl with | [_, _], _ => rfl
  have mM7 : Meth K (He.ga K "Web") "wrong_place" (He.ma K (He.ga K "Web") "wrong_place") := ⟨aM7, iM7, kM7⟩
  have aM8 : PySem.W.findIn K (.ref (He.ga K "Web")) "is_row" = some (some (.ref (He.ma K (He.ga K "Web") "is_row"))) := of_decide_eq_true (c.fact 56 rfl)
  have iM8 : PySem.W.isFn K (.ref (He.ma K (He.ga K "Web") "is_row")) = true := c.fact 57 rfl
  obtain ⟨fdM8, DM8⟩ := c.def_ 26 (d := dM8) rfl
  have FM8 : Fun K "is_row" "Web.is_row" sIsRow (He.ma K (He.ga K "Web") "is_row") fdM8 := fun_of DM8
  have kM8 := FM8.kp
  have bM8 := FM8.binds (ps := ["self", "row"]) fun _ _ _ _ _ _ us hl => match us, hl with | [_, _], _ => rfl
  have mM8 : Meth K (He.ga K "Web") "is_row" (He.ma K (He.ga K "Web") "is_row") := ⟨aM8, iM8, kM8⟩
  have q0 : PySem.W.nsIn K mainGlobals "BadWeb" = some (some (.ref (He.ga K "BadWeb"))) := of_decide_eq_true (c.fact 58 rfl)
  have qi0 : PySem.W.isClsIn K (He.ga K "BadWeb") = true := c.fact 59 rfl
  have qt0 : PySem.W.typeIn K (.ref (He.ga K "BadWeb")) = some (.type "type") := of_decide_eq_true (c.fact 60 rfl)
  have q1 : PySem.W.nsIn K mainGlobals "BadRoom" = some (some (.ref (He.ga K "BadRoom"))) := of_decide_eq_true (c.fact 61 rfl)
  have qi1 : PySem.W.isClsIn K (He.ga K "BadRoom") = true := c.fact 62 rfl
  have qt1 : PySem.W.typeIn K (.ref (He.ga K "BadRoom")) = some (.type "type") := of_decide_eq_true (c.fact 63 rfl)
  have q2 : PySem.W.nsIn K mainGlobals "BadArrow" = some (some (.ref (He.ga K "BadArrow"))) := of_decide_eq_true (c.fact 64 rfl)
  have qi2 : PySem.W.isClsIn K (He.ga K "BadArrow") = true := c.fact 65 rfl
  have qt2 : PySem.W.typeIn K (.ref (He.ga K "BadArrow")) = some (.type "type") := of_decide_eq_true (c.fact 66 rfl)
  have q3 : PySem.W.nsIn K mainGlobals "BadFold" = some (some (.ref (He.ga K "BadFold"))) := of_decide_eq_true (c.fact 67 rfl)
  have qi3 : PySem.W.isClsIn K (He.ga K "BadFold") = true := c.fact 68 rfl
  have qt3 : PySem.W.typeIn K (.ref (He.ga K "BadFold")) = some (.type "type") := of_decide_eq_true (c.fact 69 rfl)
  have q4 : PySem.W.nsIn K mainGlobals "BadPart" = some (some (.ref (He.ga K "BadPart"))) := of_decide_eq_true (c.fact 70 rfl)
  have qi4 : PySem.W.isClsIn K (He.ga K "BadPart") = true := c.fact 71 rfl
  have qt4 : PySem.W.typeIn K (.ref (He.ga K "BadPart")) = some (.type "type") := of_decide_eq_true (c.fact 72 rfl)
  have q5 : PySem.W.nsIn K mainGlobals "BadNaming" = some (some (.ref (He.ga K "BadNaming"))) := of_decide_eq_true (c.fact 73 rfl)
  have qi5 : PySem.W.isClsIn K (He.ga K "BadNaming") = true := c.fact 74 rfl
  have qt5 : PySem.W.typeIn K (.ref (He.ga K "BadNaming")) = some (.type "type") := of_decide_eq_true (c.fact 75 rfl)
  have q6 : PySem.W.nsIn K mainGlobals "BadWalk" = some (some (.ref (He.ga K "BadWalk"))) := of_decide_eq_true (c.fact 76 rfl)
  have qi6 : PySem.W.isClsIn K (He.ga K "BadWalk") = true := c.fact 77 rfl
  have qt6 : PySem.W.typeIn K (.ref (He.ga K "BadWalk")) = some (.type "type") := of_decide_eq_true (c.fact 78 rfl)
  have q7 : PySem.W.nsIn K mainGlobals "BadBeat" = some (some (.ref (He.ga K "BadBeat"))) := of_decide_eq_true (c.fact 79 rfl)
  have qi7 : PySem.W.isClsIn K (He.ga K "BadBeat") = true := c.fact 80 rfl
  have qt7 : PySem.W.typeIn K (.ref (He.ga K "BadBeat")) = some (.type "type") := of_decide_eq_true (c.fact 81 rfl)
  have q8 : PySem.W.nsIn K mainGlobals "BadWindow" = some (some (.ref (He.ga K "BadWindow"))) := of_decide_eq_true (c.fact 82 rfl)
  have qi8 : PySem.W.isClsIn K (He.ga K "BadWindow") = true := c.fact 83 rfl
  have qt8 : PySem.W.typeIn K (.ref (He.ga K "BadWindow")) = some (.type "type") := of_decide_eq_true (c.fact 84 rfl)
  have q9 : PySem.W.nsIn K mainGlobals "BadTable" = some (some (.ref (He.ga K "BadTable"))) := of_decide_eq_true (c.fact 85 rfl)
  have qi9 : PySem.W.isClsIn K (He.ga K "BadTable") = true := c.fact 86 rfl
  have qt9 : PySem.W.typeIn K (.ref (He.ga K "BadTable")) = some (.type "type") := of_decide_eq_true (c.fact 87 rfl)
  have q10 : PySem.W.nsIn K mainGlobals "Apart" = some (some (.ref (He.ga K "Apart"))) := of_decide_eq_true (c.fact 88 rfl)
  have qi10 : PySem.W.isClsIn K (He.ga K "Apart") = true := c.fact 89 rfl
  have qt10 : PySem.W.typeIn K (.ref (He.ga K "Apart")) = some (.type "type") := of_decide_eq_true (c.fact 90 rfl)
  have q11 : PySem.W.nsIn K mainGlobals "TooMany" = some (some (.ref (He.ga K "TooMany"))) := of_decide_eq_true (c.fact 91 rfl)
  have qi11 : PySem.W.isClsIn K (He.ga K "TooMany") = true := c.fact 92 rfl
  have qt11 : PySem.W.typeIn K (.ref (He.ga K "TooMany")) = some (.type "type") := of_decide_eq_true (c.fact 93 rfl)
  have q12 : PySem.W.nsIn K mainGlobals "NotBack" = some (some (.ref (He.ga K "NotBack"))) := of_decide_eq_true (c.fact 94 rfl)
  have qi12 : PySem.W.isClsIn K (He.ga K "NotBack") = true := c.fact 95 rfl
  have qt12 : PySem.W.typeIn K (.ref (He.ga K "NotBack")) = some (.type "type") := of_decide_eq_true (c.fact 96 rfl)
  have q13 : PySem.W.nsIn K mainGlobals "BadText" = some (some (.ref (He.ga K "BadText"))) := of_decide_eq_true (c.fact 97 rfl)
  have qi13 : PySem.W.isClsIn K (He.ga K "BadText") = true := c.fact 98 rfl
  have qt13 : PySem.W.typeIn K (.ref (He.ga K "BadText")) = some (.type "type") := of_decide_eq_true (c.fact 99 rfl)
  have q14 : PySem.W.nsIn K mainGlobals "BadName" = some (some (.ref (He.ga K "BadName"))) := of_decide_eq_true (c.fact 100 rfl)
  have qi14 : PySem.W.isClsIn K (He.ga K "BadName") = true := c.fact 101 rfl
  have qt14 : PySem.W.typeIn K (.ref (He.ga K "BadName")) = some (.type "type") := of_decide_eq_true (c.fact 102 rfl)
  have q15 : PySem.W.nsIn K mainGlobals "Taken" = some (some (.ref (He.ga K "Taken"))) := of_decide_eq_true (c.fact 103 rfl)
  have qi15 : PySem.W.isClsIn K (He.ga K "Taken") = true := c.fact 104 rfl
  have qt15 : PySem.W.typeIn K (.ref (He.ga K "Taken")) = some (.type "type") := of_decide_eq_true (c.fact 105 rfl)
  have q16 : PySem.W.nsIn K mainGlobals "Full" = some (some (.ref (He.ga K "Full"))) := of_decide_eq_true (c.fact 106 rfl)
  have qi16 : PySem.W.isClsIn K (He.ga K "Full") = true := c.fact 107 rfl
  have qt16 : PySem.W.typeIn K (.ref (He.ga K "Full")) = some (.type "type") := of_decide_eq_true (c.fact 108 rfl)
  have q17 : PySem.W.nsIn K mainGlobals "Wide" = some (some (.ref (He.ga K "Wide"))) := of_decide_eq_true (c.fact 109 rfl)
  have qi17 : PySem.W.isClsIn K (He.ga K "Wide") = true := c.fact 110 rfl
  have qt17 : PySem.W.typeIn K (.ref (He.ga K "Wide")) = some (.type "type") := of_decide_eq_true (c.fact 111 rfl)
  have q18 : PySem.W.nsIn K mainGlobals "Used" = some (some (.ref (He.ga K "Used"))) := of_decide_eq_true (c.fact 112 rfl)
  have qi18 : PySem.W.isClsIn K (He.ga K "Used") = true := c.fact 113 rfl
  have qt18 : PySem.W.typeIn K (.ref (He.ga K "Used")) = some (.type "type") := of_decide_eq_true (c.fact 114 rfl)
  have q19 : PySem.W.nsIn K mainGlobals "BadDeed" = some (some (.ref (He.ga K "BadDeed"))) := of_decide_eq_true (c.fact 115 rfl)
  have qi19 : PySem.W.isClsIn K (He.ga K "BadDeed") = true := c.fact 116 rfl
  have qt19 : PySem.W.typeIn K (.ref (He.ga K "BadDeed")) = some (.type "type") := of_decide_eq_true (c.fact 117 rfl)
  have q20 : PySem.W.nsIn K mainGlobals "Stopped" = some (some (.ref (He.ga K "Stopped"))) := of_decide_eq_true (c.fact 118 rfl)
  have qi20 : PySem.W.isClsIn K (He.ga K "Stopped") = true := c.fact 119 rfl
  have qt20 : PySem.W.typeIn K (.ref (He.ga K "Stopped")) = some (.type "type") := of_decide_eq_true (c.fact 120 rfl)
  have q21 : PySem.W.nsIn K mainGlobals "BadPage" = some (some (.ref (He.ga K "BadPage"))) := of_decide_eq_true (c.fact 121 rfl)
  have qi21 : PySem.W.isClsIn K (He.ga K "BadPage") = true := c.fact 122 rfl
  have qt21 : PySem.W.typeIn K (.ref (He.ga K "BadPage")) = some (.type "type") := of_decide_eq_true (c.fact 123 rfl)
  have q22 : PySem.W.nsIn K mainGlobals "NoWeb" = some (some (.ref (He.ga K "NoWeb"))) := of_decide_eq_true (c.fact 124 rfl)
  have qi22 : PySem.W.isClsIn K (He.ga K "NoWeb") = true := c.fact 125 rfl
  have qt22 : PySem.W.typeIn K (.ref (He.ga K "NoWeb")) = some (.type "type") := of_decide_eq_true (c.fact 126 rfl)
  have q23 : PySem.W.nsIn K mainGlobals "NoReader" = some (some (.ref (He.ga K "NoReader"))) := of_decide_eq_true (c.fact 127 rfl)
  have qi23 : PySem.W.isClsIn K (He.ga K "NoReader") = true := c.fact 128 rfl
  have qt23 : PySem.W.typeIn K (.ref (He.ga K "NoReader")) = some (.type "type") := of_decide_eq_true (c.fact 129 rfl)
  have q24 : PySem.W.nsIn K mainGlobals "NoWalker" = some (some (.ref (He.ga K "NoWalker"))) := of_decide_eq_true (c.fact 130 rfl)
  have qi24 : PySem.W.isClsIn K (He.ga K "NoWalker") = true := c.fact 131 rfl
  have qt24 : PySem.W.typeIn K (.ref (He.ga K "NoWalker")) = some (.type "type") := of_decide_eq_true (c.fact 132 rfl)
  have q25 : PySem.W.nsIn K mainGlobals "NoName" = some (some (.ref (He.ga K "NoName"))) := of_decide_eq_true (c.fact 133 rfl)
  have qi25 : PySem.W.isClsIn K (He.ga K "NoName") = true := c.fact 134 rfl
  have qt25 : PySem.W.typeIn K (.ref (He.ga K "NoName")) = some (.type "type") := of_decide_eq_true (c.fact 135 rfl)
  have q26 : PySem.W.nsIn K mainGlobals "NothingLeft" = some (some (.ref (He.ga K "NothingLeft"))) := of_decide_eq_true (c.fact 136 rfl)
  have qi26 : PySem.W.isClsIn K (He.ga K "NothingLeft") = true := c.fact 137 rfl
  have qt26 : PySem.W.typeIn K (.ref (He.ga K "NothingLeft")) = some (.type "type") := of_decide_eq_true (c.fact 138 rfl)
  have qL : PySem.W.nsIn K mainGlobals "Lost" = some (some (.ref (He.ga K "Lost"))) := of_decide_eq_true (c.fact 139 rfl)
  have qF : PySem.W.nsIn K mainGlobals "FoldError" = some (some (.ref (He.ga K "FoldError"))) := of_decide_eq_true (c.fact 140 rfl)
  let Cs : Nat → Addr := fun i => ([(He.ga K "BadWeb"), (He.ga K "BadRoom"), (He.ga K "BadArrow"), (He.ga K "BadFold"), (He.ga K "BadPart"), (He.ga K "BadNaming"), (He.ga K "BadWalk"), (He.ga K "BadBeat"), (He.ga K "BadWindow"), (He.ga K "BadTable"), (He.ga K "Apart"), (He.ga K "TooMany"), (He.ga K "NotBack"), (He.ga K "BadText"), (He.ga K "BadName"), (He.ga K "Taken"), (He.ga K "Full"), (He.ga K "Wide"), (He.ga K "Used"), (He.ga K "BadDeed"), (He.ga K "Stopped"), (He.ga K "BadPage"), (He.ga K "NoWeb"), (He.ga K "NoReader"), (He.ga K "NoWalker"), (He.ga K "NoName"), (He.ga K "NothingLeft")] : List Addr).getD i 0
  have KM : KindM K mg Cs := ⟨PySem.W.mg_of X G q0, PySem.W.mg_of X G q1, PySem.W.mg_of X G q2, PySem.W.mg_of X G q3, PySem.W.mg_of X G q4, PySem.W.mg_of X G q5, PySem.W.mg_of X G q6, PySem.W.mg_of X G q7, PySem.W.mg_of X G q8, PySem.W.mg_of X G q9, PySem.W.mg_of X G q10, PySem.W.mg_of X G q11, PySem.W.mg_of X G q12, PySem.W.mg_of X G q13, PySem.W.mg_of X G q14, PySem.W.mg_of X G q15, PySem.W.mg_of X G q16, PySem.W.mg_of X G q17, PySem.W.mg_of X G q18, PySem.W.mg_of X G q19, PySem.W.mg_of X G q20, PySem.W.mg_of X G q21, PySem.W.mg_of X G q22, PySem.W.mg_of X G q23, PySem.W.mg_of X G q24, PySem.W.mg_of X G q25, PySem.W.mg_of X G q26, gisinstance, gzip⟩
  have TM : ToldM K mg Cs (He.ga K "Lost") (He.ga K "FoldError") := ⟨KM, PySem.W.mg_of X G qL, PySem.W.mg_of X G qF⟩
  have e0b : PySem.W.subIn K (.ref (He.ga K "BadWeb")) (.type "BaseException") = some true := of_decide_eq_true (c.fact 141 rfl)
  have e0d : PySem.W.hasDictIn K (He.ga K "BadWeb") = true := c.fact 142 rfl
  have e6b : PySem.W.subIn K (.ref (He.ga K "BadWalk")) (.type "BaseException") = some true := of_decide_eq_true (c.fact 143 rfl)
  have e6d : PySem.W.hasDictIn K (He.ga K "BadWalk") = true := c.fact 144 rfl
  have e13b : PySem.W.subIn K (.ref (He.ga K "BadText")) (.type "BaseException") = some true := of_decide_eq_true (c.fact 145 rfl)
  have e13d : PySem.W.hasDictIn K (He.ga K "BadText") = true := c.fact 146 rfl
  have e9b : PySem.W.subIn K (.ref (He.ga K "BadTable")) (.type "BaseException") = some true := of_decide_eq_true (c.fact 147 rfl)
  have e9d : PySem.W.hasDictIn K (He.ga K "BadTable") = true := c.fact 148 rfl
  have e21b : PySem.W.subIn K (.ref (He.ga K "BadPage")) (.type "BaseException") = some true := of_decide_eq_true (c.fact 149 rfl)
  have e21d : PySem.W.hasDictIn K (He.ga K "BadPage") = true := c.fact 150 rfl
  have e11b : PySem.W.subIn K (.ref (He.ga K "TooMany")) (.type "BaseException") = some true := of_decide_eq_true (c.fact 151 rfl)
  have e11d : PySem.W.hasDictIn K (He.ga K "TooMany") = true := c.fact 152 rfl
  have e18b : PySem.W.subIn K (.ref (He.ga K "Used")) (.type "BaseException") = some true := of_decide_eq_true (c.fact 153 rfl)
  have e18d : PySem.W.hasDictIn K (He.ga K "Used") = true := c.fact 154 rfl
  have e20b : PySem.W.subIn K (.ref (He.ga K "Stopped")) (.type "BaseException") = some true := of_decide_eq_true (c.fact 155 rfl)
  have e20d : PySem.W.hasDictIn K (He.ga K "Stopped") = true := c.fact 156 rfl
  have e26b : PySem.W.subIn K (.ref (He.ga K "NothingLeft")) (.type "BaseException") = some true := of_decide_eq_true (c.fact 157 rfl)
  have e26d : PySem.W.hasDictIn K (He.ga K "NothingLeft") = true := c.fact 158 rfl
  have eLb : PySem.W.subIn K (.ref (He.ga K "Lost")) (.type "BaseException") = some true := of_decide_eq_true (c.fact 159 rfl)
  have eLd : PySem.W.hasDictIn K (He.ga K "Lost") = true := c.fact 160 rfl
  have eFb : PySem.W.subIn K (.ref (He.ga K "FoldError")) (.type "BaseException") = some true := of_decide_eq_true (c.fact 161 rfl)
  have eFd : PySem.W.hasDictIn K (He.ga K "FoldError") = true := c.fact 162 rfl
  have eLt : PySem.W.typeIn K (.ref (He.ga K "Lost")) = some (.type "type") := of_decide_eq_true (c.fact 163 rfl)
  have eFt : PySem.W.typeIn K (.ref (He.ga K "FoldError")) = some (.type "type") := of_decide_eq_true (c.fact 164 rfl)
  have xn : PySem.W.specialIn K (.builtin "object.__class__") "__get__" = some (some (.builtin "getset_descriptor.__get__")) := of_decide_eq_true (c.fact 165 rfl)
  have xt : PySem.W.takesIn K (.builtin "object.__class__") = some true := of_decide_eq_true (c.fact 166 rfl)
  have r8ga : PySem.W.findIn K (.ref (He.ga K "BadWindow")) "__getattribute__" = some (some (.builtin "BaseException.__getattribute__")) := of_decide_eq_true (c.fact 167 rfl)
  have r8gg : PySem.W.findIn K (.ref (He.ga K "BadWindow")) "__getattr__" = some none := of_decide_eq_true (c.fact 168 rfl)
  have r8be : PySem.W.subIn K (.ref (He.ga K "BadWindow")) (.type "BaseException") = some true := of_decide_eq_true (c.fact 169 rfl)
  have r8hd : PySem.W.hasDictIn K (He.ga K "BadWindow") = true := c.fact 170 rfl
  have r8ca : PySem.W.findIn K (.ref (He.ga K "BadWindow")) "__class__" = some (some (.builtin "object.__class__")) := of_decide_eq_true (c.fact 171 rfl)
  have r8mo : PySem.W.mroIn K (He.ga K "BadWindow") (.type "object") = some true := of_decide_eq_true (c.fact 172 rfl)
  have r8nw : PySem.W.findIn K (.ref (He.ga K "BadWindow")) "word" = some none := of_decide_eq_true (c.fact 173 rfl)
  have r8sa : PySem.W.findIn K (.ref (He.ga K "BadWindow")) "__setattr__" = some (some (.builtin "object.__setattr__")) := of_decide_eq_true (c.fact 174 rfl)
  have r8kp : PySem.W.keepIn K (.ref (He.ga K "BadWindow")) = true := c.fact 175 rfl
  have r8ex : excB K (He.ga K "BadWindow") = true := c.fact 176 rfl
  have r8s0 : PySem.W.subIn K (.ref (He.ga K "BadWindow")) (.ref (He.ga K "BadWeb")) = some false := of_decide_eq_true (c.fact 177 rfl)
  have r8d0 : (He.ga K "BadWindow") ≠ (He.ga K "BadWeb") := of_decide_eq_true (c.fact 178 rfl)
  have r8s1 : PySem.W.subIn K (.ref (He.ga K "BadWindow")) (.ref (He.ga K "BadRoom")) = some false := of_decide_eq_true (c.fact 179 rfl)
  have r8d1 : (He.ga K "BadWindow") ≠ (He.ga K "BadRoom") := of_decide_eq_true (c.fact 180 rfl)
  have r8s2 : PySem.W.subIn K (.ref (He.ga K "BadWindow")) (.ref (He.ga K "BadArrow")) = some false := of_decide_eq_true (c.fact 181 rfl)
  have r8d2 : (He.ga K "BadWindow") ≠ (He.ga K "BadArrow") := of_decide_eq_true (c.fact 182 rfl)
  have r8s3 : PySem.W.subIn K (.ref (He.ga K "BadWindow")) (.ref (He.ga K "BadFold")) = some false := of_decide_eq_true (c.fact 183 rfl)
  have r8d3 : (He.ga K "BadWindow") ≠ (He.ga K "BadFold") := of_decide_eq_true (c.fact 184 rfl)
  have r8s4 : PySem.W.subIn K (.ref (He.ga K "BadWindow")) (.ref (He.ga K "BadPart")) = some false := of_decide_eq_true (c.fact 185 rfl)
  have r8d4 : (He.ga K "BadWindow") ≠ (He.ga K "BadPart") := of_decide_eq_true (c.fact 186 rfl)
  have r8s5 : PySem.W.subIn K (.ref (He.ga K "BadWindow")) (.ref (He.ga K "BadNaming")) = some false := of_decide_eq_true (c.fact 187 rfl)
  have r8d5 : (He.ga K "BadWindow") ≠ (He.ga K "BadNaming") := of_decide_eq_true (c.fact 188 rfl)
  have r8s6 : PySem.W.subIn K (.ref (He.ga K "BadWindow")) (.ref (He.ga K "BadWalk")) = some false := of_decide_eq_true (c.fact 189 rfl)
  have r8d6 : (He.ga K "BadWindow") ≠ (He.ga K "BadWalk") := of_decide_eq_true (c.fact 190 rfl)
  have r8s7 : PySem.W.subIn K (.ref (He.ga K "BadWindow")) (.ref (He.ga K "BadBeat")) = some false := of_decide_eq_true (c.fact 191 rfl)
  have r8d7 : (He.ga K "BadWindow") ≠ (He.ga K "BadBeat") := of_decide_eq_true (c.fact 192 rfl)
  have r8s9 : PySem.W.subIn K (.ref (He.ga K "BadWindow")) (.ref (He.ga K "BadTable")) = some false := of_decide_eq_true (c.fact 193 rfl)
  have r8d9 : (He.ga K "BadWindow") ≠ (He.ga K "BadTable") := of_decide_eq_true (c.fact 194 rfl)
  have r8s10 : PySem.W.subIn K (.ref (He.ga K "BadWindow")) (.ref (He.ga K "Apart")) = some false := of_decide_eq_true (c.fact 195 rfl)
  have r8d10 : (He.ga K "BadWindow") ≠ (He.ga K "Apart") := of_decide_eq_true (c.fact 196 rfl)
  have r8s11 : PySem.W.subIn K (.ref (He.ga K "BadWindow")) (.ref (He.ga K "TooMany")) = some false := of_decide_eq_true (c.fact 197 rfl)
  have r8d11 : (He.ga K "BadWindow") ≠ (He.ga K "TooMany") := of_decide_eq_true (c.fact 198 rfl)
  have r8s12 : PySem.W.subIn K (.ref (He.ga K "BadWindow")) (.ref (He.ga K "NotBack")) = some false := of_decide_eq_true (c.fact 199 rfl)
  have r8d12 : (He.ga K "BadWindow") ≠ (He.ga K "NotBack") := of_decide_eq_true (c.fact 200 rfl)
  have r8s13 : PySem.W.subIn K (.ref (He.ga K "BadWindow")) (.ref (He.ga K "BadText")) = some false := of_decide_eq_true (c.fact 201 rfl)
  have r8d13 : (He.ga K "BadWindow") ≠ (He.ga K "BadText") := of_decide_eq_true (c.fact 202 rfl)
  have r8s14 : PySem.W.subIn K (.ref (He.ga K "BadWindow")) (.ref (He.ga K "BadName")) = some false := of_decide_eq_true (c.fact 203 rfl)
  have r8d14 : (He.ga K "BadWindow") ≠ (He.ga K "BadName") := of_decide_eq_true (c.fact 204 rfl)
  have r8s15 : PySem.W.subIn K (.ref (He.ga K "BadWindow")) (.ref (He.ga K "Taken")) = some false := of_decide_eq_true (c.fact 205 rfl)
  have r8d15 : (He.ga K "BadWindow") ≠ (He.ga K "Taken") := of_decide_eq_true (c.fact 206 rfl)
  have r8s16 : PySem.W.subIn K (.ref (He.ga K "BadWindow")) (.ref (He.ga K "Full")) = some false := of_decide_eq_true (c.fact 207 rfl)
  have r8d16 : (He.ga K "BadWindow") ≠ (He.ga K "Full") := of_decide_eq_true (c.fact 208 rfl)
  have r8s17 : PySem.W.subIn K (.ref (He.ga K "BadWindow")) (.ref (He.ga K "Wide")) = some false := of_decide_eq_true (c.fact 209 rfl)
  have r8d17 : (He.ga K "BadWindow") ≠ (He.ga K "Wide") := of_decide_eq_true (c.fact 210 rfl)
  have r8s18 : PySem.W.subIn K (.ref (He.ga K "BadWindow")) (.ref (He.ga K "Used")) = some false := of_decide_eq_true (c.fact 211 rfl)
  have r8d18 : (He.ga K "BadWindow") ≠ (He.ga K "Used") := of_decide_eq_true (c.fact 212 rfl)
  have r8s19 : PySem.W.subIn K (.ref (He.ga K "BadWindow")) (.ref (He.ga K "BadDeed")) = some false := of_decide_eq_true (c.fact 213 rfl)
  have r8d19 : (He.ga K "BadWindow") ≠ (He.ga K "BadDeed") := of_decide_eq_true (c.fact 214 rfl)
  have r8s20 : PySem.W.subIn K (.ref (He.ga K "BadWindow")) (.ref (He.ga K "Stopped")) = some false := of_decide_eq_true (c.fact 215 rfl)
  have r8d20 : (He.ga K "BadWindow") ≠ (He.ga K "Stopped") := of_decide_eq_true (c.fact 216 rfl)
  have r8s21 : PySem.W.subIn K (.ref (He.ga K "BadWindow")) (.ref (He.ga K "BadPage")) = some false := of_decide_eq_true (c.fact 217 rfl)
  have r8d21 : (He.ga K "BadWindow") ≠ (He.ga K "BadPage") := of_decide_eq_true (c.fact 218 rfl)
  have r8s22 : PySem.W.subIn K (.ref (He.ga K "BadWindow")) (.ref (He.ga K "NoWeb")) = some false := of_decide_eq_true (c.fact 219 rfl)
  have r8d22 : (He.ga K "BadWindow") ≠ (He.ga K "NoWeb") := of_decide_eq_true (c.fact 220 rfl)
  have r8s23 : PySem.W.subIn K (.ref (He.ga K "BadWindow")) (.ref (He.ga K "NoReader")) = some false := of_decide_eq_true (c.fact 221 rfl)
  have r8d23 : (He.ga K "BadWindow") ≠ (He.ga K "NoReader") := of_decide_eq_true (c.fact 222 rfl)
  have r8s24 : PySem.W.subIn K (.ref (He.ga K "BadWindow")) (.ref (He.ga K "NoWalker")) = some false := of_decide_eq_true (c.fact 223 rfl)
  have r8d24 : (He.ga K "BadWindow") ≠ (He.ga K "NoWalker") := of_decide_eq_true (c.fact 224 rfl)
  have r8s25 : PySem.W.subIn K (.ref (He.ga K "BadWindow")) (.ref (He.ga K "NoName")) = some false := of_decide_eq_true (c.fact 225 rfl)
  have r8d25 : (He.ga K "BadWindow") ≠ (He.ga K "NoName") := of_decide_eq_true (c.fact 226 rfl)
  have r8s26 : PySem.W.subIn K (.ref (He.ga K "BadWindow")) (.ref (He.ga K "NothingLeft")) = some false := of_decide_eq_true (c.fact 227 rfl)
  have r8d26 : (He.ga K "BadWindow") ≠ (He.ga K "NothingLeft") := of_decide_eq_true (c.fact 228 rfl)
  have r8sL : PySem.W.subIn K (.ref (He.ga K "BadWindow")) (.ref (He.ga K "Lost")) = some false := of_decide_eq_true (c.fact 229 rfl)
  have r8sF : PySem.W.subIn K (.ref (He.ga K "BadWindow")) (.ref (He.ga K "FoldError")) = some true := of_decide_eq_true (c.fact 230 rfl)
  have Kr8 : KindOf K Cs (He.ga K "BadWindow") "BadWindow" := ⟨⟨r8ga, r8gg, r8be, r8hd, r8ca, xn, xt, r8mo⟩, ⟨r8ga, r8gg, r8be, r8hd⟩, r8nw, 8, rfl, fun i hi => match i, hi with | 0, _ => kit_of qi0 qt0 (ref_ne r8d0) r8s0 | 1, _ => kit_of qi1 qt1 (ref_ne r8d1) r8s1 | 2, _ => kit_of qi2 qt2 (ref_ne r8d2) r8s2 | 3, _ => kit_of qi3 qt3 (ref_ne r8d3) r8s3 | 4, _ => kit_of qi4 qt4 (ref_ne r8d4) r8s4 | 5, _ => kit_of qi5 qt5 (ref_ne r8d5) r8s5 | 6, _ => kit_of qi6 qt6 (ref_ne r8d6) r8s6 | 7, _ => kit_of qi7 qt7 (ref_ne r8d7) r8s7 | 8, _ => kit_own | 9, _ => kit_of qi9 qt9 (ref_ne r8d9) r8s9 | 10, _ => kit_of qi10 qt10 (ref_ne r8d10) r8s10 | 11, _ => kit_of qi11 qt11 (ref_ne r8d11) r8s11 | 12, _ => kit_of qi12 qt12 (ref_ne r8d12) r8s12 | 13, _ => kit_of qi13 qt13 (ref_ne r8d13) r8s13 | 14, _ => kit_of qi14 qt14 (ref_ne r8d14) r8s14 | 15, _ => kit_of qi15 qt15 (ref_ne r8d15) r8s15 | 16, _ => kit_of qi16 qt16 (ref_ne r8d16) r8s16 | 17, _ => kit_of qi17 qt17 (ref_ne r8d17) r8s17 | 18, _ => kit_of qi18 qt18 (ref_ne r8d18) r8s18 | 19, _ => kit_of qi19 qt19 (ref_ne r8d19) r8s19 | 20, _ => kit_of qi20 qt20 (ref_ne r8d20) r8s20 | 21, _ => kit_of qi21 qt21 (ref_ne r8d21) r8s21 | 22, _ => kit_of qi22 qt22 (ref_ne r8d22) r8s22 | 23, _ => kit_of qi23 qt23 (ref_ne r8d23) r8s23 | 24, _ => kit_of qi24 qt24 (ref_ne r8d24) r8s24 | 25, _ => kit_of qi25 qt25 (ref_ne r8d25) r8s25 | 26, _ => kit_of qi26 qt26 (ref_ne r8d26) r8s26 | n + 27, h => absurd h (by omega)⟩
  have Tr8 : ToldOf K Cs (He.ga K "Lost") (He.ga K "FoldError") (He.ga K "BadWindow") 7 := ⟨exm3 (PySem.W.exm_ref e0b e0d qt0 r8s0) (PySem.W.exm_ref e6b e6d qt6 r8s6) (PySem.W.exm_ref e13b e13d qt13 r8s13), exm2 (PySem.W.exm_ref e9b e9d qt9 r8s9) (PySem.W.exm_ref e21b e21d qt21 r8s21), exm1 (PySem.W.exm_ref e11b e11d qt11 r8s11), exm1 (PySem.W.exm_ref e18b e18d qt18 r8s18), exm1 (PySem.W.exm_ref e20b e20d qt20 r8s20), exm1 (PySem.W.exm_ref eLb eLd eLt r8sL), exm2 (PySem.W.exm_ref eFb eFd eFt r8sF) (PySem.W.exm_ref e26b e26d qt26 r8s26)⟩
  have Rr8 : RefC K (He.ga K "BadWindow") := ⟨⟨excB_ok r8ex, r8sa, r8be, qt8, r8kp⟩, r8nw⟩
  have r11ga : PySem.W.findIn K (.ref (He.ga K "TooMany")) "__getattribute__" = some (some (.builtin "BaseException.__getattribute__")) := of_decide_eq_true (c.fact 231 rfl)
  have r11gg : PySem.W.findIn K (.ref (He.ga K "TooMany")) "__getattr__" = some none := of_decide_eq_true (c.fact 232 rfl)
  have r11be : PySem.W.subIn K (.ref (He.ga K "TooMany")) (.type "BaseException") = some true := of_decide_eq_true (c.fact 233 rfl)
  have r11hd : PySem.W.hasDictIn K (He.ga K "TooMany") = true := c.fact 234 rfl
  have r11ca : PySem.W.findIn K (.ref (He.ga K "TooMany")) "__class__" = some (some (.builtin "object.__class__")) := of_decide_eq_true (c.fact 235 rfl)
  have r11mo : PySem.W.mroIn K (He.ga K "TooMany") (.type "object") = some true := of_decide_eq_true (c.fact 236 rfl)
  have r11nw : PySem.W.findIn K (.ref (He.ga K "TooMany")) "word" = some none := of_decide_eq_true (c.fact 237 rfl)
  have r11sa : PySem.W.findIn K (.ref (He.ga K "TooMany")) "__setattr__" = some (some (.builtin "object.__setattr__")) := of_decide_eq_true (c.fact 238 rfl)
  have r11kp : PySem.W.keepIn K (.ref (He.ga K "TooMany")) = true := c.fact 239 rfl
  have r11nmost : PySem.W.findIn K (.ref (He.ga K "TooMany")) "most" = some none := of_decide_eq_true (c.fact 240 rfl)
  have r11ex : excB K (He.ga K "TooMany") = true := c.fact 241 rfl
  have r11s0 : PySem.W.subIn K (.ref (He.ga K "TooMany")) (.ref (He.ga K "BadWeb")) = some false := of_decide_eq_true (c.fact 242 rfl)
  have r11d0 : (He.ga K "TooMany") ≠ (He.ga K "BadWeb") := of_decide_eq_true (c.fact 243 rfl)
  have r11s1 : PySem.W.subIn K (.ref (He.ga K "TooMany")) (.ref (He.ga K "BadRoom")) = some false := of_decide_eq_true (c.fact 244 rfl)
  have r11d1 : (He.ga K "TooMany") ≠ (He.ga K "BadRoom") := of_decide_eq_true (c.fact 245 rfl)
  have r11s2 : PySem.W.subIn K (.ref (He.ga K "TooMany")) (.ref (He.ga K "BadArrow")) = some false := of_decide_eq_true (c.fact 246 rfl)
  have r11d2 : (He.ga K "TooMany") ≠ (He.ga K "BadArrow") := of_decide_eq_true (c.fact 247 rfl)
  have r11s3 : PySem.W.subIn K (.ref (He.ga K "TooMany")) (.ref (He.ga K "BadFold")) = some false := of_decide_eq_true (c.fact 248 rfl)
  have r11d3 : (He.ga K "TooMany") ≠ (He.ga K "BadFold") := of_decide_eq_true (c.fact 249 rfl)
  have r11s4 : PySem.W.subIn K (.ref (He.ga K "TooMany")) (.ref (He.ga K "BadPart")) = some false := of_decide_eq_true (c.fact 250 rfl)
  have r11d4 : (He.ga K "TooMany") ≠ (He.ga K "BadPart") := of_decide_eq_true (c.fact 251 rfl)
  have r11s5 : PySem.W.subIn K (.ref (He.ga K "TooMany")) (.ref (He.ga K "BadNaming")) = some false := of_decide_eq_true (c.fact 252 rfl)
  have r11d5 : (He.ga K "TooMany") ≠ (He.ga K "BadNaming") := of_decide_eq_true (c.fact 253 rfl)
  have r11s6 : PySem.W.subIn K (.ref (He.ga K "TooMany")) (.ref (He.ga K "BadWalk")) = some false := of_decide_eq_true (c.fact 254 rfl)
  have r11d6 : (He.ga K "TooMany") ≠ (He.ga K "BadWalk") := of_decide_eq_true (c.fact 255 rfl)
  have r11s7 : PySem.W.subIn K (.ref (He.ga K "TooMany")) (.ref (He.ga K "BadBeat")) = some false := of_decide_eq_true (c.fact 256 rfl)
  have r11d7 : (He.ga K "TooMany") ≠ (He.ga K "BadBeat") := of_decide_eq_true (c.fact 257 rfl)
  have r11s8 : PySem.W.subIn K (.ref (He.ga K "TooMany")) (.ref (He.ga K "BadWindow")) = some false := of_decide_eq_true (c.fact 258 rfl)
  have r11d8 : (He.ga K "TooMany") ≠ (He.ga K "BadWindow") := of_decide_eq_true (c.fact 259 rfl)
  have r11s9 : PySem.W.subIn K (.ref (He.ga K "TooMany")) (.ref (He.ga K "BadTable")) = some false := of_decide_eq_true (c.fact 260 rfl)
  have r11d9 : (He.ga K "TooMany") ≠ (He.ga K "BadTable") := of_decide_eq_true (c.fact 261 rfl)
  have r11s10 : PySem.W.subIn K (.ref (He.ga K "TooMany")) (.ref (He.ga K "Apart")) = some false := of_decide_eq_true (c.fact 262 rfl)
  have r11d10 : (He.ga K "TooMany") ≠ (He.ga K "Apart") := of_decide_eq_true (c.fact 263 rfl)
  have r11s12 : PySem.W.subIn K (.ref (He.ga K "TooMany")) (.ref (He.ga K "NotBack")) = some false := of_decide_eq_true (c.fact 264 rfl)
  have r11d12 : (He.ga K "TooMany") ≠ (He.ga K "NotBack") := of_decide_eq_true (c.fact 265 rfl)
  have r11s13 : PySem.W.subIn K (.ref (He.ga K "TooMany")) (.ref (He.ga K "BadText")) = some false := of_decide_eq_true (c.fact 266 rfl)
  have r11d13 : (He.ga K "TooMany") ≠ (He.ga K "BadText") := of_decide_eq_true (c.fact 267 rfl)
  have r11s14 : PySem.W.subIn K (.ref (He.ga K "TooMany")) (.ref (He.ga K "BadName")) = some false := of_decide_eq_true (c.fact 268 rfl)
  have r11d14 : (He.ga K "TooMany") ≠ (He.ga K "BadName") := of_decide_eq_true (c.fact 269 rfl)
  have r11s15 : PySem.W.subIn K (.ref (He.ga K "TooMany")) (.ref (He.ga K "Taken")) = some false := of_decide_eq_true (c.fact 270 rfl)
  have r11d15 : (He.ga K "TooMany") ≠ (He.ga K "Taken") := of_decide_eq_true (c.fact 271 rfl)
  have r11s16 : PySem.W.subIn K (.ref (He.ga K "TooMany")) (.ref (He.ga K "Full")) = some false := of_decide_eq_true (c.fact 272 rfl)
  have r11d16 : (He.ga K "TooMany") ≠ (He.ga K "Full") := of_decide_eq_true (c.fact 273 rfl)
  have r11s17 : PySem.W.subIn K (.ref (He.ga K "TooMany")) (.ref (He.ga K "Wide")) = some false := of_decide_eq_true (c.fact 274 rfl)
  have r11d17 : (He.ga K "TooMany") ≠ (He.ga K "Wide") := of_decide_eq_true (c.fact 275 rfl)
  have r11s18 : PySem.W.subIn K (.ref (He.ga K "TooMany")) (.ref (He.ga K "Used")) = some false := of_decide_eq_true (c.fact 276 rfl)
  have r11d18 : (He.ga K "TooMany") ≠ (He.ga K "Used") := of_decide_eq_true (c.fact 277 rfl)
  have r11s19 : PySem.W.subIn K (.ref (He.ga K "TooMany")) (.ref (He.ga K "BadDeed")) = some false := of_decide_eq_true (c.fact 278 rfl)
  have r11d19 : (He.ga K "TooMany") ≠ (He.ga K "BadDeed") := of_decide_eq_true (c.fact 279 rfl)
  have r11s20 : PySem.W.subIn K (.ref (He.ga K "TooMany")) (.ref (He.ga K "Stopped")) = some false := of_decide_eq_true (c.fact 280 rfl)
  have r11d20 : (He.ga K "TooMany") ≠ (He.ga K "Stopped") := of_decide_eq_true (c.fact 281 rfl)
  have r11s21 : PySem.W.subIn K (.ref (He.ga K "TooMany")) (.ref (He.ga K "BadPage")) = some false := of_decide_eq_true (c.fact 282 rfl)
  have r11d21 : (He.ga K "TooMany") ≠ (He.ga K "BadPage") := of_decide_eq_true (c.fact 283 rfl)
  have r11s22 : PySem.W.subIn K (.ref (He.ga K "TooMany")) (.ref (He.ga K "NoWeb")) = some false := of_decide_eq_true (c.fact 284 rfl)
  have r11d22 : (He.ga K "TooMany") ≠ (He.ga K "NoWeb") := of_decide_eq_true (c.fact 285 rfl)
  have r11s23 : PySem.W.subIn K (.ref (He.ga K "TooMany")) (.ref (He.ga K "NoReader")) = some false := of_decide_eq_true (c.fact 286 rfl)
  have r11d23 : (He.ga K "TooMany") ≠ (He.ga K "NoReader") := of_decide_eq_true (c.fact 287 rfl)
  have r11s24 : PySem.W.subIn K (.ref (He.ga K "TooMany")) (.ref (He.ga K "NoWalker")) = some false := of_decide_eq_true (c.fact 288 rfl)
  have r11d24 : (He.ga K "TooMany") ≠ (He.ga K "NoWalker") := of_decide_eq_true (c.fact 289 rfl)
  have r11s25 : PySem.W.subIn K (.ref (He.ga K "TooMany")) (.ref (He.ga K "NoName")) = some false := of_decide_eq_true (c.fact 290 rfl)
  have r11d25 : (He.ga K "TooMany") ≠ (He.ga K "NoName") := of_decide_eq_true (c.fact 291 rfl)
  have r11s26 : PySem.W.subIn K (.ref (He.ga K "TooMany")) (.ref (He.ga K "NothingLeft")) = some false := of_decide_eq_true (c.fact 292 rfl)
  have r11d26 : (He.ga K "TooMany") ≠ (He.ga K "NothingLeft") := of_decide_eq_true (c.fact 293 rfl)
  have r11sL : PySem.W.subIn K (.ref (He.ga K "TooMany")) (.ref (He.ga K "Lost")) = some false := of_decide_eq_true (c.fact 294 rfl)
  have r11sF : PySem.W.subIn K (.ref (He.ga K "TooMany")) (.ref (He.ga K "FoldError")) = some true := of_decide_eq_true (c.fact 295 rfl)
  have r11s11 : PySem.W.subIn K (.ref (He.ga K "TooMany")) (.ref (He.ga K "TooMany")) = some true := of_decide_eq_true (c.fact 296 rfl)
  have Kr11 : KindOf K Cs (He.ga K "TooMany") "TooMany" := ⟨⟨r11ga, r11gg, r11be, r11hd, r11ca, xn, xt, r11mo⟩, ⟨r11ga, r11gg, r11be, r11hd⟩, r11nw, 11, rfl, fun i hi => match i, hi with | 0, _ => kit_of qi0 qt0 (ref_ne r11d0) r11s0 | 1, _ => kit_of qi1 qt1 (ref_ne r11d1) r11s1 | 2, _ => kit_of qi2 qt2 (ref_ne r11d2) r11s2 | 3, _ => kit_of qi3 qt3 (ref_ne r11d3) r11s3 | 4, _ => kit_of qi4 qt4 (ref_ne r11d4) r11s4 | 5, _ => kit_of qi5 qt5 (ref_ne r11d5) r11s5 | 6, _ => kit_of qi6 qt6 (ref_ne r11d6) r11s6 | 7, _ => kit_of qi7 qt7 (ref_ne r11d7) r11s7 | 8, _ => kit_of qi8 qt8 (ref_ne r11d8) r11s8 | 9, _ => kit_of qi9 qt9 (ref_ne r11d9) r11s9 | 10, _ => kit_of qi10 qt10 (ref_ne r11d10) r11s10 | 11, _ => kit_own | 12, _ => kit_of qi12 qt12 (ref_ne r11d12) r11s12 | 13, _ => kit_of qi13 qt13 (ref_ne r11d13) r11s13 | 14, _ => kit_of qi14 qt14 (ref_ne r11d14) r11s14 | 15, _ => kit_of qi15 qt15 (ref_ne r11d15) r11s15 | 16, _ => kit_of qi16 qt16 (ref_ne r11d16) r11s16 | 17, _ => kit_of qi17 qt17 (ref_ne r11d17) r11s17 | 18, _ => kit_of qi18 qt18 (ref_ne r11d18) r11s18 | 19, _ => kit_of qi19 qt19 (ref_ne r11d19) r11s19 | 20, _ => kit_of qi20 qt20 (ref_ne r11d20) r11s20 | 21, _ => kit_of qi21 qt21 (ref_ne r11d21) r11s21 | 22, _ => kit_of qi22 qt22 (ref_ne r11d22) r11s22 | 23, _ => kit_of qi23 qt23 (ref_ne r11d23) r11s23 | 24, _ => kit_of qi24 qt24 (ref_ne r11d24) r11s24 | 25, _ => kit_of qi25 qt25 (ref_ne r11d25) r11s25 | 26, _ => kit_of qi26 qt26 (ref_ne r11d26) r11s26 | n + 27, h => absurd h (by omega)⟩
  have Tr11 : ToldOf K Cs (He.ga K "Lost") (He.ga K "FoldError") (He.ga K "TooMany") 3 := ⟨exm3 (PySem.W.exm_ref e0b e0d qt0 r11s0) (PySem.W.exm_ref e6b e6d qt6 r11s6) (PySem.W.exm_ref e13b e13d qt13 r11s13), exm2 (PySem.W.exm_ref e9b e9d qt9 r11s9) (PySem.W.exm_ref e21b e21d qt21 r11s21), exm1 (PySem.W.exm_ref e11b e11d qt11 r11s11), exm1 (PySem.W.exm_ref e18b e18d qt18 r11s18), exm1 (PySem.W.exm_ref e20b e20d qt20 r11s20), exm1 (PySem.W.exm_ref eLb eLd eLt r11sL), exm2 (PySem.W.exm_ref eFb eFd eFt r11sF) (PySem.W.exm_ref e26b e26d qt26 r11s26)⟩
  have Rr11 : RefC K (He.ga K "TooMany") := ⟨⟨excB_ok r11ex, r11sa, r11be, qt11, r11kp⟩, r11nw⟩
  have fr : PySem.W.readsIn K (He.ga K "FoldError") (.type "type") = true := c.fact 297 rfl
  have fg : PySem.W.specialIn K (.ref (He.ga K "FoldError")) "__getattribute__" = some (some (.builtin "type.__getattribute__")) := of_decide_eq_true (c.fact 298 rfl)
  have ff : clsB K (.ref (He.ga K "FoldError")) (.type "type") "__init__" (.ref (He.ma K (He.ga K "FoldError") "__init__")) = true := c.fact 299 rfl
  have fv : clsB K (.type "ValueError") (.type "type") "__init__" (.builtin "ValueError.__init__") = true := c.fact 300 rfl
  have zValueError : PySem.W.nsIn K mainGlobals "ValueError" = some none := of_decide_eq_true (c.fact 301 rfl)
  have gValueError := PySem.W.mg_none_of X G zValueError
  have aFF : PySem.W.findIn K (.ref (He.ga K "FoldError")) "__init__" = some (some (.ref (He.ma K (He.ga K "FoldError") "__init__"))) := of_decide_eq_true (c.fact 302 rfl)
  have iFF : PySem.W.isFn K (.ref (He.ma K (He.ga K "FoldError") "__init__")) = true := c.fact 303 rfl
  obtain ⟨fdFF, DFF⟩ := c.def_ 27 (d := dFF) rfl
  have kFF := DFF.kp
  have mFF : Meth K (He.ga K "FoldError") "__init__" (He.ma K (He.ga K "FoldError") "__init__") := ⟨aFF, iFF, kFF⟩
  have FFF : FoldFn K (He.ma K (He.ga K "FoldError") "__init__") fdFF := DFF
  have FC : FoldC K mg (He.ga K "FoldError") (He.ma K (He.ga K "FoldError") "__init__") := ⟨PySem.W.mg_of X G qF, ⟨.type "type", ⟨fr, fg⟩, clsB_ok ff⟩, kFF⟩
  have aR1 : PySem.W.findIn K (.ref (He.ga K "BadWindow")) "__init__" = some (some (.ref (He.ma K (He.ga K "BadWindow") "__init__"))) := of_decide_eq_true (c.fact 304 rfl)
  have iR1 : PySem.W.isFn K (.ref (He.ma K (He.ga K "BadWindow") "__init__")) = true := c.fact 305 rfl
  obtain ⟨fdR1, DR1⟩ := c.def_ 28 (d := dR1) rfl
  have FR1 : Fun K "__init__" "BadWindow.__init__" sWinInit (He.ma K (He.ga K "BadWindow") "__init__") fdR1 := fun_of DR1
  have kR1 := FR1.kp
  have bR1 := FR1.binds (ps := ["self"]) fun _ _ _ _ _ _ us hl => match us, hl with | [_], _ => rfl
  have mR1 : Meth K (He.ga K "BadWindow") "__init__" (He.ma K (He.ga K "BadWindow") "__init__") := ⟨aR1, iR1, kR1⟩
  have aR2 : PySem.W.findIn K (.ref (He.ga K "TooMany")) "__init__" = some (some (.ref (He.ma K (He.ga K "TooMany") "__init__"))) := of_decide_eq_true (c.fact 306 rfl)
  have iR2 : PySem.W.isFn K (.ref (He.ma K (He.ga K "TooMany") "__init__")) = true := c.fact 307 rfl
  obtain ⟨fdR2, DR2⟩ := c.def_ 29 (d := dR2) rfl
  have FR2 : Fun K "__init__" "TooMany.__init__" sTooMany (He.ma K (He.ga K "TooMany") "__init__") fdR2 := fun_of DR2
  have kR2 := FR2.kp
  have bR2 := FR2.binds (ps := ["self", "most"]) fun _ _ _ _ _ _ us hl => match us, hl with | [_, _], _ => rfl
  have mR2 : Meth K (He.ga K "TooMany") "__init__" (He.ma K (He.ga K "TooMany") "__init__") := ⟨aR2, iR2, kR2⟩
  have tR1 : PySem.W.typeIn K (.ref (He.ma K (He.ga K "BadWindow") "__init__")) = some (.type "function") := of_decide_eq_true (c.fact 308 rfl)
  have tR2 : PySem.W.typeIn K (.ref (He.ma K (He.ga K "TooMany") "__init__")) = some (.type "function") := of_decide_eq_true (c.fact 309 rfl)
  obtain ⟨tmr, mr⟩ := He.int_ok (x := "MOST_ROOMS") (i := 100) X G (c.fact 310 rfl)
  obtain ⟨tma, ma⟩ := He.int_ok (x := "MOST_ARROWS") (i := 400) X G (c.fact 311 rfl)
  obtain ⟨tml, ml⟩ := He.int_ok (x := "MOST_LENGTH") (i := 60) X G (c.fact 312 rfl)
  obtain ⟨tmw, mw⟩ := He.int_ok (x := "MOST_WINDOW") (i := 6) X G (c.fact 313 rfl)
  obtain ⟨tmo, mo⟩ := He.int_ok (x := "MOST_ROWS") (i := 600) X G (c.fact 314 rfl)
  have aLW : PySem.W.nsIn K mainGlobals "law" = some (some (.ref (He.ga K "law"))) := of_decide_eq_true (c.fact 315 rfl)
  obtain ⟨fdLW, DLW⟩ := c.def_ 30 (d := dLW) rfl
  have FLW : Fun K "law" "law" sLaw (He.ga K "law") fdLW := fun_of DLW
  have kLW := FLW.kp
  have bLW := FLW.binds (ps := ["_law_script"]) fun _ _ _ _ _ _ us hl => match us, hl with | [_], _ => rfl
  have mLW := PySem.W.mg_of X G aLW
  obtain ⟨ocL, odL, kVL, docL, pmL, anL, cdL, ctL, slL, eL0, lkL, cdeL⟩ := FLW.ex
  have lawC : lawB K (He.ga K "law") = true := c.fact 316 rfl
  subst eL0
  obtain ⟨cL, Pt, dC, vC, slC, fileC, tfC, tgC, ttC, flC, teC, inC, eCd, kcL, v11, w11, v18, v7, v9, v10, ncP, nlP⟩ := lawB_ok lkL lawC
  have eCd2 : cdL = .ref cL := eCd
  subst eCd2
  have eLaw := hfa.symm.trans mLW
  cases eLaw
  have MI : Mk K (He.ga K "Web") (He.ma K (He.ga K "Web") "__init__") := ⟨Cmk, aM1, iM1, Ckc⟩
  refine ⟨PySem.W.fnOf "law" "law" (defArgs sLaw) (defBody sLaw) (defScope sLaw) .none kVL docL pmL anL (.ref cL) ctL, [(cL, Pt)], spLaw K Pt, fun p hp => ?_, fun p hp => ?_, fun p hp => ?_, fun s v => .of_eq rfl, fun H a ns _ _ hH hS => ⟨a, ns, rfl, hS, hH (cL, Pt) List.mem_cons_self, fun _ => rfl⟩, fun base _ _ hTB => ?_⟩
  · rw [List.mem_singleton.mp hp]
    exact own cL Pt _ _ _ _ _ _ lkL rfl rfl kcL v11
  · rw [List.mem_singleton.mp hp]
    exact nlP
  · rw [List.mem_singleton.mp hp]
    exact ⟨_, vC, fileC, tfC, flC, tgC, inC, teC, ttC, X _ _ kcL, rfl, rfl, v11, w11, v18, v7, v9, v10, ncP⟩
  have TB : TabB base mg cL Pt := hTB (cL, Pt) List.mem_cons_self
  have M : SameM mg := ⟨gisinstance, glist, gtuple, glen, gall, gzip, gbool, gint, gstr⟩
  have E1 := ok_fold (P := l.prog) (w := w) (mg := mg) (base := base) FFF gValueError (clsB_ok fv)
  have bF := fold_binds FFF
  have E2 := ok_badwindow FR1 FC E1 bF
  have E3 := ok_toomany FR2 FC E1 bF
  have RB : Raiser l.prog w K mg base "BadWindow" "BadWindow" (He.ga K "BadWindow") := ⟨Rr8, PySem.W.mg_of X G q8, _, _, E2, bR1, aR1, tR1⟩
  have RM : RaiserM l.prog w K mg base (He.ga K "TooMany") := ⟨Rr11, r11nmost, PySem.W.mg_of X G q11, _, _, E3, bR2, aR2, tR2⟩
  have G1 := ok_is_pair (P := l.prog) (w := w) (mg := mg) (base := base) FA1 glen
  have G2 := ok_pairs_of FA2 G1 bA1 mA1 kA1 genumerate gtuple ma
  have G3 := ok_gathered (P := l.prog) (w := w) (mg := mg) (base := base) FA3 grange genumerate gtuple
  have G4 := ok_bag (P := l.prog) (w := w) (mg := mg) (base := base) FA4 glist
  have G5 := ok_pull (P := l.prog) (w := w) (mg := mg) (base := base) FA5 glen
  have G6 := ok_of FA6 G5 bA5 mA5 kA5 glen
  have G7 := ok_mixed FA7 G5 bA5 mA5 kA5 glen glist grange
  have G8 := ok_web FA8 G5 bA5 mA5 kA5 G7 bA7 mA7 kA7 grange gtuple
  have G9 := ok_far FB1 G5 bA5 mA5 kA5 G6 bA6 mA6 kA6
  have GI := ok_init FM1 T G2 bA2 mA2 kA2 G3 bA3 mA3 kA3 mr
  have GM := ok_made FA9 MI GI bM1 mC glist
  have GS := ok_same (P := l.prog) (w := w) (mg := mg) (base := base) FB4 M bB4 mB4 kB4 2
  have GK := ok_kind (P := l.prog) (w := w) (mg := mg) (base := base) FB2 KM
  have H1 := ok_louts (P := l.prog) (w := w) (mg := mg) (base := base) FD1 genumerate
  have H3 := ok_lon FD3 H1 bD1 mD1 kD1
  have H4 := ok_lmany FD4 H1 bD1 mD1 kD1 grange gsum
  have H5 := ok_lrows FD5 H3 bD3 mD3 kD3 grange glen
  have H6 := ok_lisrow (P := l.prog) (w := w) (mg := mg) (base := base) FD6 glen gall gzip
  have H7 := ok_lwalk FD7 G5 bA5 mA5 kA5 G6 bA6 mA6 kA6 H3 bD3 mD3 kD3 grange glen genumerate
  have I2 := ok_manyR FM2 T RB ml grange gsum
  have I4 := ok_after (P := l.prog) (w := w) (mg := mg) (base := base) FM4 T
  have I3 := ok_rowsR FM3 T RB RM I2 bM2 mM2 I4 bM4 mM4 mw mo grange glen
  have I5 := ok_has (P := l.prog) (w := w) (mg := mg) (base := base) FM5 T glen
  have I6 := ok_follows (P := l.prog) (w := w) (mg := mg) (base := base) FM6 T
  have I7 := ok_wrong FM7 T I5 bM5 mM5 I6 bM6 mM6 glen genumerate
  have I8 := ok_isRow FM8 T I7 bM7 mM7 glen
  exact ok_law lkL cdeL {
    T := T, range := grange, len := glen, list := glist, tuple := gtuple, int := gint, mC := mC, tm := TM, kb := Kr8, tb := Tr8, km := Kr11, tt := Tr11, nm := r11nmost
    kind := ⟨_, _, GK, bB2, mB2, kB2⟩
    told := ⟨_, _, FB3, bB3, mB3, kB3⟩
    bag := ⟨_, _, G4, bA4, mA4, kA4⟩
    pull := ⟨_, _, G5, bA5, mA5, kA5⟩
    of_ := ⟨_, _, G6, bA6, mA6, kA6⟩
    far := ⟨_, _, G9, bB1, mB1, kB1⟩
    web := ⟨_, _, G8, bA8, mA8, kA8⟩
    made := ⟨_, _, GM, bA9, mA9, kA9⟩
    same := ⟨_, _, GS, bB4, mB4, kB4⟩
    lmany := ⟨_, _, H4, bD4, mD4, kD4⟩
    lrows := ⟨_, _, H5, bD5, mD5, kD5⟩
    lisrow := ⟨_, _, H6, bD6, mD6, kD6⟩
    walk := ⟨_, _, H7, bD7, mD7, kD7⟩
    init := ⟨_, _, GI, bM1, MI⟩
    many := ⟨_, _, I2, bM2, mM2⟩
    rows := ⟨_, _, I3, bM3, mM3⟩
    isrow := ⟨_, _, I8, bM8, mM8⟩ } TB
end KW
open PySem PySem.W PySem.Calls PyProof.Rows in
set_option maxRecDepth 100000 in
set_option maxHeartbeats 0 in
theorem PySem.Challenge.cw_aheadfold_k03_rows_of_webs_holds : PySem.Challenge.rw_aheadfold_k03_rows_of_webs.Holds := by
  w_on; o_law
  refine HandSHeadRun.head_any (r := OpenLaw.row PySem.Challenge.rw_aheadfold_k03_rows_of_webs) (q := view (OpenLaw.row PySem.Challenge.rw_aheadfold_k03_rows_of_webs).prog [58]) (H := KW.hkM) (ob := KW.obM) (M := 20000) (loose := KW.loAll) (d := HandSHeadRun.topDef (OpenLaw.row PySem.Challenge.rw_aheadfold_k03_rows_of_webs).prog 58) (kwd := []) KW.obM_eq
    (by kernel_rfl) (fun s => by kernel_rfl) KW.runM (by kernel_rfl) (by kernel_rfl) (by kernel_rfl) (by rfl) (by first | assumption | decide +kernel) (by decide +kernel) ⟨rfl, rfl, rfl, rfl, rfl, by decide +kernel⟩ ?hw ?hc
  case hw => w_witness2
  case hc =>
    refine KW.walk_own (l := PySem.Challenge.rw_aheadfold_k03_rows_of_webs) (n := 63) (k := 8) (x := "_law_script") rfl (by decide) (by kernel_rfl) ⟨rfl, by decide, by decide⟩ (by decide +kernel) ?F
    intro w mg fa hp says ground named
    obtain ⟨K, inK, c⟩ := says
    have nm : (HandSHeadRun.topDef (OpenLaw.row PySem.Challenge.rw_aheadfold_k03_rows_of_webs).prog 58).name = ("law" : PySem.Str) := by kernel_rfl
    rw [nm] at named
    exact ⟨K, inK, fun own => KW.factsM inK ground named c own⟩

