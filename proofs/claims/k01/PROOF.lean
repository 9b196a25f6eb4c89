import PyProof.Rows.All
import Wide.All
import OpenK.AllK
import Wide.FinOn
import HandS.ForMost
import HandS.Wide
import HandS.Codes
import HandS.Walk
import PyProof.P3In
import PyProof.Rows.InDataRows
import HandS.IsInst
import KE.GoesMore
import KE.GoesEnum
import KE.DataFind
import PyProof.InstNe
import PyProof.InstEq
import OpenK.KOps
import OpenK.KMake
import PySem.Challenge.RW_aheadfold_k01_webs_made
import HandS.FStr
import HandS.Conv
import HandS.Zip
set_option Elab.async false
set_option maxRecDepth 100000
/-! Rules and words that speak of no row. -/
namespace KW
open PySem PySem.Spec PyProof.Rows L2
section
variable {X : Cx}
/-- o[j] of a list, by values, for o[j] op= e -/
def rGetL (K : PySem.W.Frag) : V → V → Hp → VK → Prop := fun o i H Q =>
  ∃ (p : Addr) (xs : List V) (j : Nat) (v : V), o = .ref p ∧ i = .int j ∧ SqL K H p xs ∧ xs[j]? = some v ∧ Q v H
theorem get_list : PGet X (rGetL X.K) := by
  intro pins s σ H o i ov iv Q I ro ri h
  obtain ⟨p, xs, j, v, rfl, rfl, hq, he, q⟩ := h
  cases ro
  obtain ⟨t, rfl⟩ := ri
  obtain ⟨its, r, pl, hz⟩ := I.list hq
  obtain ⟨u, eu, ru⟩ := r.get he
  have hj : j < xs.length := (List.getElem?_eq_some_iff.mp he).1
  have h63 := line63
  exact wpAny_getItem_list pl.isList (by omega) (by omega) (by simpa using eu) ⟨v, H, I, ru, q⟩
/-! ### by the K that is written, for blocks -/
def rTupleOf (K : PySem.W.Frag) : List V → Hp → VK → Prop := fun xs H Q => ∃ p ys, xs = [.ref p] ∧ ((SqL K H p ys ∧ ∀ l, H l = none → Q (.ref l) (upd H l (.tup ys))) ∨ (SqT K H p ys ∧ Q (.ref p) H))
theorem call_tupleK {K : PySem.W.Frag} (h : X.K = K) : CallR X (.type "tuple") (rTupleOf K) := by
  subst h
  exact call_tuple_of
def rListOf (K : PySem.W.Frag) : List V → Hp → VK → Prop := fun xs H Q => ∃ p ys, xs = [.ref p] ∧ (SqL K H p ys ∨ SqT K H p ys) ∧ ∀ l, H l = none → Q (.ref l) (upd H l (.lst ys))
theorem call_listK {K : PySem.W.Frag} (h : X.K = K) : CallR X (.type "list") (rListOf K) := by
  subst h
  exact call_list_of
theorem ix_listK {K : PySem.W.Frag} (h : X.K = K) : IxR X (rIxL K) := by
  subst h
  exact ix_list
theorem ix_tupK {K : PySem.W.Frag} (h : X.K = K) : IxR X (rIxT K) := by
  subst h
  exact ix_tup
theorem ix_seqK {K : PySem.W.Frag} (h : X.K = K) : IxR X (rIx K) := by
  subst h
  exact ix_seq
/-- a tuple whose object is known to have no dict -/
def FzT (H : Hp) (q : Addr) (as : List V) : Prop := ∃ o : Obj, H q = some (.frz o (.tup as)) ∧ o.dict = none
theorem FzT.sq {K : PySem.W.Frag} {H : Hp} {q : Addr} {as : List V} (h : FzT H q as) : SqT K H q as := by
  obtain ⟨o, h, _⟩ := h
  exact .inl (.inr ⟨o, h⟩)
def rTupleF (K : PySem.W.Frag) : List V → Hp → VK → Prop := fun xs H Q => ∃ p ys, xs = [.ref p] ∧ SqL K H p ys ∧ ∀ (l : Addr) (o : Obj), H l = none → o.dict = none → Q (.ref l) (upd H l (.frz o (.tup ys)))
theorem call_tupleF : CallR X (.type "tuple") (rTupleF X.K) := by
  intro pins st σ H xs us Q I rel hyp
  obtain ⟨p, ys, rfl, hsq, hq⟩ := hyp
  cases rel with
  | cons r0 r1 =>
    cases r1
    cases r0
    obtain ⟨its, vals, plain, short⟩ := I.list hsq
    have ln := vals.length
    refine call_tuple_list plain.isList (fun h' keep => ?_) (by simp only [List.size_toArray]; omega)
    have J : Inv X pins σ H { st with heap := h' } := I.kept (t' := st.toks) keep
    have J2 : Inv X pins σ (upd H h'.objs.size (.frz { cls := .type "tuple", data := .seq its.toArray } (.tup ys))) { st with heap := h'.push { cls := .type "tuple", data := .seq its.toArray } } :=
      J.laid (t' := st.toks) (fun c u hc => Heap.get?_push_of_some _ hc) (Nat.le_refl _) ⟨Heap.get?_push_size _ rfl, short, its, vals, IsTup.new _ _⟩
    exact ⟨.ref h'.objs.size, _, J2, rfl, hq _ _ (J.hok.fresh (Nat.le_refl _)) rfl⟩
theorem boot_tuple' : bootBuiltins "tuple" = some (.type "tuple") := by decide +kernel
theorem boot_list' : bootBuiltins "list" = some (.type "list") := by decide +kernel
end
/-- the drawing bag at b: its list at l holds ns -/
def BagAt (b l : Addr) (ns : List Int) (H : Hp) : Prop :=
  (∃ i r s c : Int, H b = some (.lst [.ref l, .int i, .int r, .int s, .int c]) ∧ 0 ≤ i) ∧ H l = some (.lst (ns.map V.int)) ∧ b ≠ l
/-- all but b is as it was -/
def Off (b : Addr) (H H' : Hp) : Prop := ∀ a, a ≠ b → H' a = H a
theorem Off.refl (b : Addr) (H : Hp) : Off b H H := fun _ _ => rfl
theorem Off.trans {b : Addr} {H H1 H2 : Hp} (x : Off b H H1) (y : Off b H1 H2) : Off b H H2 := fun a h => (y a h).trans (x a h)
theorem Off.upd {b : Addr} {H : Hp} {o : HO} : Off b H (upd H b o) := fun _ h => upd_ne h
theorem BagAt.put {b l : Addr} {ns : List Int} {H : Hp} (B : BagAt b l ns H) {i r s c : Int} (h : 0 ≤ i) : BagAt b l ns (upd H b (.lst [.ref l, .int i, .int r, .int s, .int c])) :=
  ⟨⟨i, r, s, c, upd_same, h⟩, by rw [upd_ne B.2.2.symm]; exact B.2.1, B.2.2⟩
end KW
set_option Elab.async false
set_option maxRecDepth 100000
/-! Rules and words that speak of no row, further: in over a tuple of data; rows of numbers. -/
namespace KW
open PySem PySem.Spec PyProof.Rows L2
section
variable {X : Cx}
def rInTD (K : PySem.W.Frag) : R2 := fun x y H Q => ∃ d ds, Dp K H x d ∧ Dp K H y (.tuple ds) ∧ SeqAt.shaped d = true ∧ SeqAt.shaped (.tuple ds) = true ∧ Q (.bl (ds.any fun z => PyData.eqv z d)) H
theorem op_inTD (hu : X.A.units + 65 < cLine) : OpR X (compareOp .In) (rInTD X.K) := by
  intro pins s σ H x y v u Q I rx ry h
  obtain ⟨d, ds, hd, he, sd, se, q⟩ := h
  obtain ⟨as, r1⟩ := Dp.reads I d x v hd rx
  obtain ⟨bs, r2⟩ := Dp.reads I (.tuple ds) y u he ry
  exact SeqAt.in_tuple_reads r2 r1 (SeqAt.canLay_of_shaped se) (SeqAt.canLay_of_shaped sd) (room_in_shaped sd hu) ⟨.bl _, H, I, rfl, q⟩
end
theorem hu65 {A : Around} {k : Nat} (hr : Room k A) : A.units + 65 < cLine := by
  have := hr.un
  omega
/-! ### numbers -/
def nV (i : Nat) : V := .int (i : Int)
def nums (l : List Nat) : List V := l.map nV
theorem nums_snoc (l : List Nat) (i : Nat) : nums (l ++ [i]) = nums l ++ [.int (i : Int)] := by
  unfold nums
  rw [List.map_append]
  rfl
def nD (i : Nat) : PyData := .int (i : Int)
def rowD (l : List Nat) : PyData := .tuple (l.map nD)
theorem nums_lay : ∀ l : List Nat, PyData.canLayAll0 (l.map nD) = true
  | [] => by simp [PyData.canLayAll0]
  | i :: l => by simp [PyData.canLayAll0, nD, PyData.canLay0, nums_lay l]
theorem nums_depth : ∀ l : List Nat, PyData.depthAll (l.map nD) = 0
  | [] => by simp [PyData.depthAll]
  | i :: l => by simp [PyData.depthAll, nD, PyData.depth, nums_depth l]
theorem rows_lay : ∀ ls : List (List Nat), PyData.canLayAll0 (ls.map rowD) = true
  | [] => by simp [PyData.canLayAll0]
  | l :: ls => by simp [PyData.canLayAll0, rowD, PyData.canLay0, nums_lay l, rows_lay ls]
theorem rows_depth : ∀ ls : List (List Nat), PyData.depthAll (ls.map rowD) ≤ 1
  | [] => by simp [PyData.depthAll]
  | l :: ls => by
    have h1 := rows_depth ls
    simp only [List.map_cons, PyData.depthAll, rowD, PyData.depth, nums_depth]
    omega
theorem shaped_of {d : PyData} (h1 : d.canLay0 = true) (h2 : d.depth ≤ 64) : SeqAt.shaped d = true := by
  unfold SeqAt.shaped
  rw [h1, decide_eq_true h2]
  rfl
theorem rows_shaped (ls : List (List Nat)) : SeqAt.shaped (.tuple (ls.map rowD)) = true := by
  have h1 := rows_depth ls
  exact shaped_of (by simp only [PyData.canLay0]; exact rows_lay ls) (by simp only [PyData.depth]; omega)
theorem nil_shaped : SeqAt.shaped (.tuple []) = true := by decide
theorem nil_in (ls : List (List Nat)) : ((ls.map rowD).any fun z => PyData.eqv z (.tuple [])) = ls.any (·.isEmpty) := by
  rw [List.any_map]
  congr 1
  funext l
  cases l <;> simp [rowD, PyData.eqv, PyData.eqvAll]
theorem dp_nums {K : PySem.W.Frag} {H : Hp} : ∀ l : List Nat, DpAll K H (nums l) (l.map nD)
  | [] => .nil
  | i :: l => .cons (.int _) (dp_nums l)
/-! ### rows of numbers, each a tuple -/
def IsR (H : Hp) (v : V) (l : List Nat) : Prop := ∃ a, v = .ref a ∧ H a = some (.tup (nums l))
abbrev RowsIn (H : Hp) (vs : List V) (ls : List (List Nat)) : Prop := Paired (IsR H) vs ls
theorem dp_rows {K : PySem.W.Frag} {H : Hp} : ∀ {vs : List V} {ls : List (List Nat)}, RowsIn H vs ls → DpAll K H vs (ls.map rowD)
  | _, _, .nil => .nil
  | _, _, .cons ⟨a, e, h⟩ r => by
    rw [e]
    exact .cons (.tup (SqT.of h) (dp_nums _)) (dp_rows r)
/-! ### the places of a number -/
def idxs : List Nat → Nat → Nat → List Nat
  | [], _, _ => []
  | p :: ps, r, k => if p = r then k :: idxs ps r (k + 1) else idxs ps r (k + 1)
theorem idxs_snoc (p r : Nat) : ∀ (ps : List Nat) (k : Nat), idxs (ps ++ [p]) r k = idxs ps r k ++ (if p = r then [k + ps.length] else [])
  | [], k => by
    show idxs [p] r k = _
    unfold idxs
    split <;> simp [idxs]
  | q :: ps, k => by
    have ih := idxs_snoc p r ps (k + 1)
    show idxs (q :: (ps ++ [p])) r k = _
    unfold idxs
    rw [ih]
    have e : k + 1 + ps.length = k + (q :: ps).length := by simp; omega
    rw [e]
    split <;> simp
theorem idxs_len (r : Nat) : ∀ (ps : List Nat) (k : Nat), (idxs ps r k).length ≤ ps.length
  | [], k => by simp [idxs]
  | q :: ps, k => by
    have ih := idxs_len r ps (k + 1)
    unfold idxs
    split <;> simp <;> omega
theorem idxs_none (r : Nat) : ∀ (ps : List Nat) (k : Nat), idxs ps r k = [] → r ∉ ps
  | [], k, _ => by simp
  | q :: ps, k, h => by
    unfold idxs at h
    split at h
    · cases h
    · rename_i hq
      have ih := idxs_none r ps (k + 1) h
      intro z
      rcases List.mem_cons.mp z with e | e
      · exact hq e.symm
      · exact ih e
/-- for each number below n its places -/
def gat (n : Nat) (ps : List Nat) : List (List Nat) := (List.range n).map fun r => idxs ps r 0
theorem gat_len (n : Nat) (ps : List Nat) : (gat n ps).length = n := by simp [gat]
theorem gat_full {n : Nat} {ps : List Nat} (h : ∀ r, r < n → r ∈ ps) : (gat n ps).any (·.isEmpty) = false := by
  rw [List.any_eq_false]
  intro l hl z
  obtain ⟨r, hr, e⟩ := List.mem_map.mp hl
  subst e
  exact idxs_none r ps 0 (List.isEmpty_iff.mp z) (h r (List.mem_range.mp hr))
end KW
set_option Elab.async false
set_option maxRecDepth 100000
set_option maxHeartbeats 1000000
/-! Rules that speak of no row: enumerate(tuple); t.count(x); len, repr, ==, != by an own class's methods. -/
namespace KW
open PySem PySem.Spec PyProof.Rows L2
/-! ### enumerate(t), t a tuple -/
theorem meets_enum1 {v : Value} {ob : Obj} {G : Heap → Prop} (B : Begins v ob G) :
    Meets (Builtin.«enumerate.__new__» ⟨[.type "enumerate", v], []⟩) (fun _ R st => G st.heap ∧
      R (.ok (.ret (.ref (st.heap.push ob).objs.size))) { st with heap := (st.heap.push ob).push { cls := .type "enumerate", data := .fields #[.none, .bool false, .ref st.heap.objs.size, rawInt 0, .none, .none] } }) :=
  .of_wp fun prog w A R st hyp => by
    obtain ⟨hp, gs, dr, tk, os⟩ := st
    obtain ⟨hG, hR⟩ := hyp
    have sub1 := sub_enumerate
    have begin1 : ∀ {A1 : Around} {E1 : Value → Shared → Prop} {Q1 : Value → Shared → Prop}, Q1 (.ref hp.objs.size) ⟨hp.push ob, gs, dr, tk, os⟩ → wpAny (model prog w) A1 (pyIter v) Q1 E1 ⟨hp, gs, dr, tk, os⟩ :=
      fun hq => B.iter prog w _ _ ⟨hp, gs, dr, tk, os⟩ _ hG hq
    wp_walk using begin1
    refine wpAny_stack_any fun stk => wpAny_pure ?_
    split
    · rename_i cl _ _ _ _ _
      cases (cl == Value.type "enumerate") <;> (wp_walk using begin1; exact ⟨_, rfl, hR⟩)
    · wp_walk using begin1
      exact ⟨_, rfl, hR⟩
theorem call_enum1 {prog : Program} {w : World} {A : Around} {E : Value → Shared → Prop} {st : Shared} {v : Value} {ob : Obj} {G : Heap → Prop} {Q : Value → Shared → Prop} (B : Begins v ob G) (hG : G st.heap)
    (hQ : ∀ h', IsEnum h' (st.heap.objs.size + 1) st.heap.objs.size 0 .none → h'.get? st.heap.objs.size = some ob → (∀ c u, st.heap.get? c = some u → h'.get? c = some u) → Q (.ref (st.heap.objs.size + 1)) { st with heap := h' }) :
    wpAny (model prog w) A (call (.type "enumerate") [v]) Q E st := by
  refine callType_new F.called_enumerate (by decide) (F.typeCall_enumerate_1 _) (F.newCall_enumerate_1 _) (fun self => F.args_object_init_2 self _) F.entry_enumerate_new (meets_enum1 B) ⟨hG, ?_⟩
  have size1 : (st.heap.push ob).objs.size = st.heap.objs.size + 1 := Heap.size_push ..
  have isE : IsEnum ((st.heap.push ob).push { cls := .type "enumerate", data := .fields #[.none, .bool false, .ref st.heap.objs.size, rawInt 0, .none, .none] }) (st.heap.objs.size + 1) st.heap.objs.size 0 .none := by
    have last := Heap.get?_push_size (st.heap.push ob) (o := { cls := .type "enumerate", data := .fields #[.none, .bool false, .ref st.heap.objs.size, rawInt 0, .none, .none] }) rfl
    rw [size1] at last
    exact last
  show _ ∧ _
  rw [size1]
  exact ⟨⟨_, isE, rfl⟩, hQ _ isE (Heap.get?_push_of_some _ (Heap.get?_push_size _ B.free)) fun c u hc => Heap.get?_push_of_some _ (Heap.get?_push_of_some _ hc)⟩
/-- the tuple at a, each item with its number in a new pair -/
def ItEnT (K : PySem.W.Frag) (a : Addr) : It where
  go := fun i H => ∃ (xs : List V) (x : V), SqT K H a xs ∧ xs[i]? = some x
  yld := fun i H v H' => ∃ T x, v = .ref T ∧ H T = none ∧ H' = upd H T (.tup [.int (i : Nat), x]) ∧ ∀ xs, SqT K H a xs → xs[i]? = some x
  stop := fun i H => ∃ xs : List V, SqT K H a xs ∧ xs.length ≤ i
theorem turn_enT {P : Program} {w : World} {K : PySem.W.Frag} {els : List Expr} {kk : Nat} {tp : Pos} (a en it : Addr) :
    Turn P w K (.Tuple els kk tp) (ItEnT K a) [en, it] en (fun i h => (∃ old, IsEnum h en it ((i : Nat) : Int) old) ∧ h.IsTupleIter it a i ∧ en ≠ it ∧ en ≠ a ∧ a ≠ it) where
  mem := by simp
  obj := fun i h state c hc => by
    obtain ⟨⟨old, hen⟩, ⟨ob, hob, _, hdat⟩, _⟩ := state
    rcases (by simpa using hc : c = en ∨ c = it) with hz | hz
    · subst hz
      exact ⟨_, hen, fun v bad => nomatch bad⟩
    · subst hz
      exact ⟨ob, hob, fun v bad => by rw [hdat] at bad; cases bad⟩
  keep := fun i h h' state stay => by
    obtain ⟨⟨old, hen⟩, hti, n1, n2, n3⟩ := state
    exact ⟨⟨old, stay en (by simp) _ hen⟩, hti.at fun ob hob => stay it (by simp) ob hob, n1, n2, n3⟩
  item := by
    intro X eP ew eK calm i pins st σ H E I fresh state going
    subst eP ew eK
    obtain ⟨⟨old, hen⟩, hti, n1, n2, n3⟩ := state
    obtain ⟨xs, x, hsq, hx⟩ := going
    obtain ⟨its, vals, isT, _⟩ := I.tuple hsq
    obtain ⟨u, hu, ru⟩ := vals.get hx
    have hlt : i < its.toArray.size := by
      have := (List.getElem?_eq_some_iff.mp hu).1
      simpa using this
    have enOld : en < st.heap.objs.size := Heap.lt_size hen
    have itOld : it < st.heap.objs.size := by
      obtain ⟨_, hq, _⟩ := hti
      exact Heap.lt_size hq
    have D := Draws.tuple (prog := X.prog) (w := X.w) (A := X.A.in1) (I.ok.hd calm) it a n3 its.toArray
    refine wpAny_pyNext_enum_itemD D hen ⟨hti, isT⟩ hlt n1 (by simp [n1, n2]) fun y h' tk hy hout hti' hnew hsz hkeep => ?_
    have ey : y = u := by
      have q : its.toArray[i]? = some u := by simpa using hu
      rw [q] at hy
      exact (Option.some.inj hy).symm
    subst ey
    refine ⟨_, rfl, wpAny_letOwnedTupleGo_enum (s := { st with heap := h', toks := tk + 1 }) hout fun h2 hen2 same2 => ?_⟩
    have new2 : h2.get? st.heap.objs.size = some { cls := .type "tuple", data := .seq #[.int i tk, y] } := (same2.2 _ (Nat.ne_of_gt enOld)).trans hnew
    have okT : ObjOk X.prog X.w (upd H st.heap.objs.size (.tup [.int (i : Nat), x])) h2 st.heap.objs.size (.tup [.int (i : Nat), x]) :=
      ⟨by show 2 ≤ sizeLine; decide, [.int i tk, y], .cons ⟨_, rfl⟩ (.cons ru .nil), ⟨_, new2, rfl, _, rfl⟩⟩
    have I2 : Inv X pins σ (upd H st.heap.objs.size (.tup [.int (i : Nat), x])) { st with heap := h2, toks := tk + 1 } :=
      I.turnedNew (ch := [en, it]) (fun c ob hc hob => (same2.2 c (fun z => hc (by simp [z]))).trans (hkeep c ob (fun z => hc (by simp [z])) (fun z => hc (by simp [z])) hob)) fresh (Nat.le_refl _) okT
    have casts : ((i + 1 : Nat) : Int) = (i : Int) + 1 := by omega
    refine ⟨.ref st.heap.objs.size, _, I2, rfl, ⟨_, x, rfl, I.hok.fresh (Nat.le_refl _), rfl, fun ys hys => by rw [I.tuple_inj hys hsq]; exact hx⟩,
      ⟨⟨y, by rw [casts]; exact hen2⟩, hti'.1.at fun ob hob => (same2.2 it n1.symm).trans hob, n1, n2, n3⟩, fun c hc => ?_⟩
    have cOld : c < st.heap.objs.size := by
      rcases (by simpa using hc : c = en ∨ c = it) with hz | hz
      · rw [hz]; exact enOld
      · rw [hz]; exact itOld
    rw [upd_ne (Nat.ne_of_lt cOld)]
    exact (fresh c hc).1
  done := by
    intro X eP ew eK calm i pins st σ H E I fresh state stopping
    subst eP ew eK
    obtain ⟨⟨old, hen⟩, hti, n1, n2, n3⟩ := state
    obtain ⟨xs, hsq, hlen⟩ := stopping
    obtain ⟨its, vals, isT, _⟩ := I.tuple hsq
    obtain ⟨f0, f1, f2, f3, f4, f5⟩ := fresh it (by simp)
    have ln := vals.length
    have hT : st.TypeIs (.ref en) "enumerate" := ⟨_, hen, rfl⟩
    unfold pyNext
    refine wpAny_bind (wpAny_attempt (wpAny_callSpecial?_slot (name := Str.ofString "__next__") hT F.slot_enumerate_next (wpAny_call_entry F.slot_enumerate_next hT F.entry_enumerate_next ?_ (F.args_enumerate_next_1 _))))
    show wpAny _ _ (field (.ref en) 2 >>= _) _ _ _
    refine wpAny_bind (wpAny_field hen rfl (x := .ref it) rfl ?_)
    refine wpAny_bind (wpAny_nextOf_tuple_end (I.ok.hd calm) hti (show st.heap.IsTuple a its.toArray from isT) (by simp; omega) fun h' ex ext hex => ?_)
    obtain ⟨ob, hob, hcl⟩ := hex
    refine wpAny_bind (wpAny_isInstance (T := "StopIteration") (b := true) ⟨ob, hob, hcl⟩ isSubtype_stop ?_)
    exact wpAny_pure ⟨rfl, I.turned (t' := st.toks) (fun c u hc hcu => ext c u hc hcu) f0 f1 f3 f4 f5⟩
  self := fun A i st Q E state hq => by
    obtain ⟨⟨old, hen⟩, _⟩ := state
    exact wpAny_pyIter_enum hen hq
def iEnT (K : PySem.W.Frag) (ta : TA) : TI := fun σ H R => ta σ H fun vs H1 => ∃ a xs, vs = [.ref a] ∧ SqT K H1 a xs ∧ R (ItEnT K a) H1
theorem pi_enT {X : Cx} {e : Expr} {ta : TA} {p pos tp : Pos} {els : List Expr} {kk : Nat} (hg : Gl X "enumerate") (hm : X.mg "enumerate" = none) (ha : PA X [e] ta) (hs : starEach [e] X.env = [(false, eval e X.env)] := by rfl) :
    PI X (.Tuple els kk tp) (.Call (.Name "enumerate" p) [e] [] pos) (iEnT X.K ta) := by
  refine ⟨fun pins st σ H R I hyp => ?_⟩
  refine Call_ (ld_blt I hg hm PyProof.Rows.boot_enumerate (PyProof.Rows.callWith_type1 (thn (ha.run pos pins st σ H _ I hyp) fun us s1 ⟨vs, H1, I1, rel, rest⟩ => ?_) hs rfl))
  obtain ⟨a, xs, ev, hsq, hR⟩ := rest
  subst ev
  cases rel with
  | cons r0 r1 =>
    cases r1
    cases r0
    obtain ⟨its, vals, isT, _⟩ := I1.tuple hsq
    have aOld : a < s1.heap.objs.size := IsTup.lt isT
    refine call_enum1 (begins_tuple a its.toArray) (show s1.heap.IsTuple a its.toArray from isT) fun h' hen hit hkeep => wpAny_pyIter_enum hen ?_
    have I2 : Inv X pins σ H1 { s1 with heap := h' } := I1.kept (t' := s1.toks) hkeep
    refine ⟨s1.heap.objs.size + 1, [s1.heap.objs.size + 1, s1.heap.objs.size], _, _, H1, rfl, I2, turn_enT a (s1.heap.objs.size + 1) s1.heap.objs.size,
      ⟨⟨.none, hen⟩, ⟨_, hit, rfl, rfl⟩, Nat.succ_ne_self _, Nat.ne_of_gt (Nat.lt_succ_of_lt aOld), Nat.ne_of_lt aOld⟩, fun c hc => ?_, hR⟩
    have newer : s1.heap.objs.size ≤ c := by
      rcases (by simpa using hc : c = s1.heap.objs.size + 1 ∨ c = s1.heap.objs.size) with hz | hz
      · rw [hz]; exact Nat.le_succ _
      · rw [hz]; exact Nat.le_refl _
    exact I1.fpOk newer (I1.hok.fresh newer)
theorem walk_enT {K : PySem.W.Frag} {a : Addr} {xs : List V} : Walk (ItEnT K a) xs.length (fun H => SqT K H a xs) (YPair (fun i => some (.int (i : Nat))) (fun i => xs[i]?)) := by
  refine ⟨fun i _ hi hsq => ⟨xs, xs[i], hsq, by simp [hi]⟩, fun _ hsq => ⟨xs, hsq, Nat.le_refl _⟩, fun i H v H' _ hsq told => ?_⟩
  obtain ⟨T, x, e1, e2, e3, e4⟩ := told
  exact ⟨T, .int (i : Nat), x, e1, e2, e3, rfl, e4 xs hsq⟩
/-! ### t.count(x) -/
section
variable {X : Cx}
def rTCount (K : PySem.W.Frag) : V → List V → Hp → VK → Prop := fun x vs H Q => ∃ (a : Addr) (y : V) (d : PyData) (ds : List PyData), x = .ref a ∧ vs = [y] ∧ Dp K H (.ref a) (.tuple ds) ∧ Dp K H y d ∧ PyData.plainAll ds = true ∧ d.plain = true ∧ d.depth ≤ 64 ∧
  Q (.int ((ds.countP fun z => PyData.eqv z d : Nat) : Int)) H
theorem mt_tcount (hu : X.A.units + 65 < cLine) : MtR X "tuple.count" (rTCount X.K) := by
  intro pins st σ H x vs v us Q I rx rs hyp
  obtain ⟨a, y, d, ds, rfl, rfl, ha, hy, pl, pd, dep, q⟩ := hyp
  cases rx
  cases rs with
  | cons ry rt =>
    rename_i uy ut
    cases rt
    obtain ⟨bs, r1⟩ := Dp.reads I d y uy hy ry
    cases ha with
    | tup hsq hall =>
      obtain ⟨its, vals, isT, _⟩ := I.tuple hsq
      obtain ⟨as, r2⟩ := Dp.readsAll I ds _ its hall vals
      have few : min (PyData.depthAll ds) d.depth ≤ 64 := Nat.le_trans (Nat.min_le_right _ _) dep
      exact SeqAt.count_tuple_data (show st.heap.IsTuple a its.toArray from isT) (show ReadsAll st.heap its.toArray.toList ds as from r2) r1 pl pd (by omega) ⟨.int _, H, I.tok _, ⟨_, rfl⟩, q⟩
/-- o.count(e), o a tuple without a dict -/
def tTC (K : PySem.W.Frag) (to : TE) (t : TA) : TE := fun σ H Q => to σ H fun x H1 => ∃ q as, x = .ref q ∧ FzT H1 q as ∧ t σ H1 fun xs H2 => rTCount K x xs H2 Q
theorem pe_tcount {o e : Expr} {es : List Expr} {to : TE} {t : TA} {ap cp : Pos} (hu : X.A.units + 65 < cLine) (ho : PE X o to) (ha : PA X (e :: es) t)
    (hbase : attributeBase o "count" X.env (eval o X.env) = eval o X.env := by rfl)
    (few : ((backTo cp (starEach (e :: es) X.env)).all (fun x => !x.1) && (backToKw cp (keywordEach [] X.env)).all (fun x => x.1.isSome) && decide ((e :: es).length + ([] : List Keyword).length + (if ([] : List Keyword).isEmpty then 0 else 1) < 30)) = true := by rfl)
    (line : (ap.endLine == cp.line) = true := by rfl) (hs : starEach (e :: es) X.env = (false, eval e X.env) :: starEach es X.env := by rfl) (hpl : (backTo cp (starEach es X.env)).any (·.1) = false := by rfl) :
    PE X (.Call (.Attribute o "count" ap) (e :: es) [] cp) (tTC X.K to t) := by
  refine ⟨fun pins st σ H Q I hyp => ?_⟩
  refine wpAny_Call_method_late hbase few line rfl (thn (ho.run pins st σ H _ I hyp) fun v s1 ⟨x, H1, I1, rx, q, as, ex, hfz, rest⟩ => ?_)
  subst ex
  cases rx
  obtain ⟨ob, hfz, hdict⟩ := hfz
  obtain ⟨hob, _, its, _, ob2, hob2, hcl, _⟩ := (show ObjOk X.prog X.w H1 s1.heap q (.frz ob (.tup as)) from I1.hok q _ hfz)
  have same : ob2 = ob := Option.some.inj (hob2.symm.trans hob)
  subst same
  refine ⟨"tuple", "tuple.count", PySem.F.plainAttrs_tuple, PySem.F.slot_tuple_count, PySem.F.type_tuple_count, ⟨ob2, hob2, hcl⟩, fun a ea => by cases ea; exact ⟨ob2, hob2, hdict⟩, ?_⟩
  have args := ha.run cp pins s1 σ H1 _ I1 rest
  rw [hs] at args ⊢
  refine Calls.callWith_builtin (by show (false || (backTo cp (starEach es X.env)).any (·.1)) = false; rw [hpl]; rfl) (Calls.evalArgs_plain ?_)
  exact thn args fun us s2 ⟨vs, H2, I2, rv, hq⟩ => mt_tcount hu pins s2 σ H2 (.ref q) vs _ us Q I2 rfl rv hq
end
end KW
set_option Elab.async false
set_option maxRecDepth 100000
set_option maxHeartbeats 1000000
/-! Rules that speak of no row: len, repr, ==, != by an own class's methods. -/
namespace KW
open PySem PySem.Spec PyProof.Rows L2
section
variable {X : Cx} {CX : CXT} {k : Nat} {f C : Addr} {fd : FuncData} {ps : List Str} {sp : Sp} {E : XK}
/-- a def of the text runs somewhere below the body X -/
theorem run_sub {A : Around} {pins : List (Addr × Obj)} {σ : L2.St} {H : Hp} {st : Shared} {Q : VK} {us : List Value} {vs : List V} (F : FnOk X.prog X.w X.K X.mg X.base CX k f fd ps sp) (room : Room k A) (same : A.frames = X.A.frames) (hb : Binds X.K fd ps []) (hx : Passes CX X E)
    (I : Inv X pins σ H st) (rel : Vals vs us) (hyp : sp vs H Q E) : wpAny (model X.prog X.w) A (call (.ref f) us) (EP X pins σ Q) X.xe st := by
  have ln : us.length = ps.length := by
    rw [← rel.length]
    exact F.len _ _ _ _ hyp
  have bound := hb st us I.kIn (by rw [List.append_nil]; exact ln)
  rw [List.append_nil] at bound
  have env : Env0 X.prog X.w X.K X.mg X.base A X.stack st H := by
    obtain ⟨e1, e2, e3, e4, e5, e6, e7, e8⟩ := I.env0
    exact ⟨by rw [same]; exact e1, e2, e3, e4, e5, e6, e7, e8⟩
  refine wpAny_call (codeAny_mono (F.run A X.stack st H ⟨us, []⟩ us vs Q E room env bound rel hyp) fun res st' got => ?_)
  cases res with
  | error er => exact hx pins σ H st er st' I got
  | ok flow =>
    cases flow with
    | ret u => exact I.after got
    | next => exact got.elim
    | brk => exact got.elim
    | cont => exact got.elim
/-- what is asked of an instance at a whose class at C has the method -/
def rLenO (C : Addr) (sp : Sp) (E : XK) : List V → Hp → VK → Prop := fun xs H Q => ∃ (a dx : Addr) (fs : List (Str × V)), xs = [.ref a] ∧ H a = some (.ins C dx fs) ∧ sp [.ref a] H (fun v H' => ∃ n : Int, v = .int n ∧ 0 ≤ n ∧ n < 2 ^ 63 ∧ Q (.int n) H') E
theorem call_lenO (F : FnOk X.prog X.w X.K X.mg X.base CX k f fd ps sp) (room : Room (k + 1) X.A) (hb : Binds X.K fd ps []) (hx : Passes CX X E) (hs : PySem.W.findIn X.K (.ref C) "__len__" = some (some (.ref f))) (hf : PySem.W.isFn X.K (.ref f) = true) :
    CallR X (.builtin "len") (rLenO C sp E) := by
  intro pins st σ H xs us Q I rel hyp
  obtain ⟨a, dx, fs, rfl, ha, hsp⟩ := hyp
  cases rel with
  | cons r0 r1 =>
    cases r1
    cases r0
    obtain ⟨mA, J, _⟩ := ins_get I.hok ha
    obtain ⟨od, J, _⟩ := J.look
    obtain ⟨m, hF⟩ := I.fr
    refine PySem.W.len_K hF I.ok.mod.kin J hs hf (wpAny_mono (run_sub (A := X.A.in1) (vs := [.ref a]) F room.in1 rfl hb hx I (.cons rfl .nil) hsp) (fun v st' got => ?_) fun _ _ z => z)
    obtain ⟨v0, H', I', rv, n, ev, h0, h1, hq⟩ := got
    subst ev
    obtain ⟨t, rfl⟩ := rv
    exact ⟨⟨h0, h1⟩, .int n, H', I'.tok _, ⟨_, rfl⟩, hq⟩
def rReprO (C : Addr) (sp : Sp) (E : XK) : List V → Hp → VK → Prop := fun xs H Q => ∃ (a dx : Addr) (fs : List (Str × V)), xs = [.ref a] ∧ H a = some (.ins C dx fs) ∧ sp [.ref a] H (fun v H' => ∃ z : Str, v = .str z ∧ Q (.str z) H') E
theorem call_reprO (F : FnOk X.prog X.w X.K X.mg X.base CX k f fd ps sp) (room : Room (k + 1) X.A) (hb : Binds X.K fd ps []) (hx : Passes CX X E) (hs : PySem.W.findIn X.K (.ref C) "__repr__" = some (some (.ref f))) (hf : PySem.W.isFn X.K (.ref f) = true) :
    CallR X (.builtin "repr") (rReprO C sp E) := by
  intro pins st σ H xs us Q I rel hyp
  obtain ⟨a, dx, fs, rfl, ha, hsp⟩ := hyp
  cases rel with
  | cons r0 r1 =>
    cases r1
    cases r0
    obtain ⟨mA, J, _⟩ := ins_get I.hok ha
    obtain ⟨od, J, _⟩ := J.look
    obtain ⟨m, hF⟩ := I.fr
    refine PySem.W.repr_K room.in1.units0 hF I.ok.mod.kin J hs hf (wpAny_mono (run_sub (A := X.A.in1) (vs := [.ref a]) F room.in1 rfl hb hx I (.cons rfl .nil) hsp) (fun v st' got => ?_) fun _ _ z => z)
    obtain ⟨v0, H', I', rv, z, ev, hq⟩ := got
    subst ev
    obtain ⟨t, rfl⟩ := rv
    exact ⟨.str z, H', I', ⟨_, rfl⟩, hq⟩
/-- a == b by the own __eq__ of a's class; b: an instance of it, or a tuple -/
def rEqO (K : PySem.W.Frag) (C : Addr) (sp : Sp) (E : XK) : R2 := fun x y H Q => ∃ (a b dx : Addr) (fs : List (Str × V)), x = .ref a ∧ y = .ref b ∧ H a = some (.ins C dx fs) ∧ ((∃ (dy : Addr) (gs : List (Str × V)), H b = some (.ins C dy gs)) ∨ (PySem.W.notFirst K C (.type "tuple") = true ∧ ∃ ys, SqT K H b ys)) ∧
  sp [.ref a, .ref b] H (fun v H' => ∃ c : Bool, v = .bl c ∧ Q (.bl c) H') E
theorem op_eqO (F : FnOk X.prog X.w X.K X.mg X.base CX k f fd ps sp) (room : Room k X.A) (hb : Binds X.K fd ps []) (hx : Passes CX X E) (hs : PySem.W.findIn X.K (.ref C) "__eq__" = some (some (.ref f))) (hf : PySem.W.isFn X.K (.ref f) = true) :
    OpR X (compareOp .Eq) (rEqO X.K C sp E) := by
  intro pins st σ H x y u v Q I ru rv hyp
  obtain ⟨a, b, dx, fs, rfl, rfl, ha, hB, hsp⟩ := hyp
  cases ru
  cases rv
  obtain ⟨mA, J, _⟩ := ins_get I.hok ha
  obtain ⟨od, J, _⟩ := J.look
  obtain ⟨m, hF⟩ := I.fr
  show wpAny (model X.prog X.w) X.A (richCompare .Eq (.ref a) (.ref b)) (EP X pins σ Q) X.xe st
  have go : wpAny (model X.prog X.w) X.A (call (.ref f) [.ref a, .ref b]) (PySem.W.CmpBack (EP X pins σ Q)) X.xe st := by
    refine wpAny_mono (run_sub (A := X.A) (vs := [.ref a, .ref b]) F room rfl hb hx I (.cons rfl (.cons rfl .nil)) hsp) (fun v st' got => ?_) fun _ _ z => z
    obtain ⟨v0, H', I', rv, c, ev, hq⟩ := got
    subst ev
    cases rv
    exact ⟨.bl c, H', I', rfl, hq⟩
  rcases hB with ⟨dy, gs, hB⟩ | ⟨nf, ys, hB⟩
  · obtain ⟨mB, J', _⟩ := ins_get I.hok hB
    obtain ⟨od', J', _⟩ := J'.look
    exact PySem.W.cmp_K (op := .Eq) (tb := .ref C) room.units0 hF I.ok.mod.kin J J'.type (by simp [PySem.W.notFirst]) hs hf go
  · obtain ⟨its, _, ⟨ob, hob, hcl, _⟩, _⟩ := I.tuple hB
    have look : PySem.W.Looks (model X.prog X.w) st.heap (typeOf (.ref b)) (.type "tuple") := fun A' Q' E' s' stay hq => wpAny_typeOf_ref (stay _ _ hob) (by rw [hcl]; exact hq)
    exact PySem.W.cmp_K (op := .Eq) (tb := .type "tuple") room.units0 hF I.ok.mod.kin J look nf hs hf go
/-- a != b by the own __eq__ of their class -/
def rNeO (C : Addr) (sp : Sp) (E : XK) : R2 := fun x y H Q => ∃ (a b dx dy : Addr) (fs gs : List (Str × V)), x = .ref a ∧ y = .ref b ∧ H a = some (.ins C dx fs) ∧ H b = some (.ins C dy gs) ∧ sp [.ref a, .ref b] H (fun v H' => ∃ c : Bool, v = .bl c ∧ Q (.bl (!c)) H') E
theorem op_neO (F : FnOk X.prog X.w X.K X.mg X.base CX k f fd ps sp) (room : Room (k + 1) X.A) (hb : Binds X.K fd ps []) (hx : Passes CX X E) (hs : PySem.W.findIn X.K (.ref C) "__eq__" = some (some (.ref f))) (hf : PySem.W.isFn X.K (.ref f) = true)
    (hn : PySem.W.findIn X.K (.ref C) "__ne__" = some (some (.builtin "object.__ne__"))) (hm : PySem.W.mroIn X.K C (.type "object") = some true) : OpR X (compareOp .NotEq) (rNeO C sp E) := by
  intro pins st σ H x y u v Q I ru rv hyp
  obtain ⟨a, b, dx, dy, fs, gs, rfl, rfl, ha, hB, hsp⟩ := hyp
  cases ru
  cases rv
  obtain ⟨mA, J, _⟩ := ins_get I.hok ha
  obtain ⟨od, J, _⟩ := J.look
  obtain ⟨mB, J', _⟩ := ins_get I.hok hB
  obtain ⟨od', J', _⟩ := J'.look
  have kin := I.kIn
  have S := PySem.F.cmp_object.ne
  have sub : PySem.W.Looks (model X.prog X.w) st.heap (isInstance (.ref a) (.type "object")) true := J.type.andThen (PySem.W.looks_mroIn kin hm)
  show wpAny (model X.prog X.w) X.A (richCompare .NotEq (.ref a) (.ref b)) (EP X pins σ Q) X.xe st
  unfold richCompare
  simp only [oneThing_ref]
  refine wpAny_holding (wpAny_bind (wpAny_cRoomFor room.units0 (wpAny_bind (J.type.here (wpAny_bind (J'.type.here ?_))))))
  rw [show (Value.ref C != Value.ref C) = false from by simp]
  simp only [Bool.false_eq_true, if_false, Bool.false_and]
  refine wpAny_bind (wpAny_pure ?_)
  simp only [Bool.false_eq_true, if_false]
  unfold tryCompare
  have body : wpAny (model X.prog X.w) X.A (call (.builtin "object.__ne__") [.ref a, .ref b]) (fun r st' => ∃ c : Bool, r = .bool c ∧ EP X pins σ Q (.bool c) st') X.xe st := by
    refine wpAny_call (codeAny_call_builtin S.plain PySem.F.cmpEntry_ne (PySem.W.check_slot PySem.F.cmpKind_ne PySem.F.cmpSplit_ne sub (PySem.F.cmpArgs_ne _ _) ?_))
    unfold Builtin.«object.__ne__»
    refine wpAny_bind (wpAny_of_eq (a := ((Value.ref a : Value), [Value.ref b])) (by first | rfl | (simp only [slotArgs]; rfl)) ?_)
    refine wpAny_bind (wpAny_cRoomFor room.in1.units0 ?_)
    refine wpAny_bind (PySem.W.ifBound_K kin J hs hf (wpAny_mono (run_sub (A := X.A.in1) (vs := [.ref a, .ref b]) F room.in1 rfl hb hx I (.cons rfl (.cons rfl .nil)) hsp) (fun r st' got => ?_) fun _ _ z => z))
    obtain ⟨v0, H', I', rv, c, ev, hq⟩ := got
    subst ev
    cases rv
    refine wpAny_bind (wpAny_truthy_bool ?_)
    exact wpAny_pure ⟨!c, rfl, .bl (!c), H', I', rfl, hq⟩
  refine wpAny_bind (wpAny_bind ?_)
  simp only [callSpecialIfBound?, bindSpecialIfBound?]
  refine wpAny_holding (wpAny_bind (wpAny_bind (wpAny_bind (J.type.here ((PySem.W.looks_findIn kin hn).here ?_)))))
  simp only [S.bind]
  refine wpAny_bind (wpAny_askSetting (wpAny_ite ?_))
  have last : ∀ {Q' : Option Value → Shared → Prop}, (∀ (c : Bool) st', EP X pins σ Q (.bool c) st' → Q' (some (.bool c)) st') → wpAny (model X.prog X.w) X.A (call (.builtin "object.__ne__") ([.ref a] ++ [.ref b]) >>= fun r => pure (some r)) Q' X.xe st := fun {Q'} hQ' =>
    wpAny_bind (wpAny_mono body (fun r st' ⟨c, er, hq⟩ => by subst er; exact wpAny_pure (hQ' c st' hq)) fun _ _ z => z)
  split
  · refine wpAny_bind (wpAny_pure (wpAny_pure (last fun c st' hq => ?_)))
    first | exact wpAny_pure (wpAny_pure hq) | exact wpAny_pure hq
  · refine wpAny_tryCatch (wpAny_bind (wpAny_pure (wpAny_pure (last fun c st' hq => ?_))))
    first | exact wpAny_pure (wpAny_pure hq) | exact wpAny_pure hq
end
end KW
set_option Elab.async false
set_option maxRecDepth 100000
/-! The law's drawing: bag, pull. -/
namespace KW
open PySem PySem.Spec PyProof.Rows L2
def topS (i : Nat) : Stmt := PySem.Challenge.pw_aheadfold_k01_webs_made.main.body.getD i (.Pass ⟨0, 0, 0, 0⟩)
abbrev sBag : Stmt := topS 19
abbrev sPull : Stmt := topS 20
theorem cut63 (ns : List Int) : cutV (ns.map V.int) none (some 63) = (ns.take 63).map V.int := by
  have e : cutV (ns.map V.int) none (some ((63 : Nat) : Int)) = (ns.take 63).map V.int := by
    unfold cutV
    rw [HT.sIx_none, HT.sIx_nat, List.length_map, List.drop_zero, Nat.sub_zero, ← List.map_take]
    congr 1
    rw [List.take_eq_take_iff]
    omega
  exact e
def spBag (K : PySem.W.Frag) : Sp := fun vs H Q _ => ∃ (a : Addr) (ns : List Int), vs = [.ref a] ∧ SqL K H a (ns.map V.int) ∧
  ∀ (H' : Hp) (b l : Addr), Same H H' → H b = none → H l = none → BagAt b l (ns.take 63) H' → Q (.ref b) H'
def spPull : Sp := fun vs H Q _ => ∃ (b l : Addr) (ns : List Int) (m : Int), vs = [.ref b, .int m] ∧ BagAt b l ns H ∧ 0 < m ∧ m < 2 ^ 100 ∧
  ∀ (H' : Hp) (r : Int), 0 ≤ r → r < m → Off b H H' → BagAt b l ns H' → Q (.int r) H'
section
variable {P : Program} {w : World} {K : PySem.W.Frag} {mg : Str → Option Value} {base : Heap}
theorem scBag : FnScope ["_law_script", "_law_seed", "_law_cell"] ["_law_script"] (defScope sBag) := ⟨rfl, rfl, rfl, by decide +kernel, rfl, by decide +kernel, by decide +kernel⟩
theorem ok_bag {f : Addr} {fd : FuncData} (F : Fun K "_law_bag" "_law_bag" sBag f fd) (mL : mg "list" = none) : FnOk P w K mg base CX0 1 f fd ["_law_script"] (spBag K) := by
  refine F.ok scBag (fun vs H Q E h => ?_) (fun cdv A outer s H vs Q E hr h => ?_)
  · obtain ⟨a, ns, rfl, _⟩ := h
    rfl
  · obtain ⟨a, ns, rfl, hS, k⟩ := h
    refine ⟨_, pss_cons (ps_set (i := 1) scBag.nd rfl (Or.inl rfl) pe_int)
      (pss_cons (ps_for PassesOwn.never rfl (pi_list (pe_slice sl_list (pv 0) po_none (po_some pe_int))) (pg_name (i := 2) scBag.nd rfl (Or.inl rfl))
        (pss_one (ps_set (i := 1) scBag.nd rfl (Or.inl rfl) (pe_op op_mod (pe_op op_add (pe_op op_add (pe_op op_mul (pv 1) pe_int) (pv 2)) pe_int) pe_int))))
      (pss_one (ps_ret (pe_lst (pa_cons (pe_callTy call_list_of (by rfl) mL (by decide +kernel) (pa_cons (pe_slice sl_list (pv 0) po_none (po_some pe_int)) pa_nil))
        (pa_cons pe_int (pa_cons pe_int (pa_cons (pv 1) (pa_cons pe_int pa_nil))))))))), ?_⟩
    refine ⟨_, rfl, 63, rfl, a, _, rfl, hS, fun p hp => ?_⟩
    have hS1 : Same H (upd H p (.lst (cutV (ns.map V.int) none (some 63)))) := fun b o e => by
      rw [upd_ne (ne_of_none e hp)]
      exact e
    refine ⟨p, rfl, ⟨_, SqL.of upd_same⟩, for_list (K := K) (a := p) (xs := (ns.take 63).map V.int) (fun i σ H' => ∃ (z : Int) (v : Option V), σ = [some (.ref a), some (.int z), v] ∧ H' = upd H p (.lst (cutV (ns.map V.int) none (some 63))))
      ⟨53, none, rfl, rfl⟩ (fun i σ H' _ ⟨_, _, _, e⟩ => ?_) ?_ ?_⟩
    · rw [e, cut63]
      exact SqL.of upd_same
    · rintro i y σ H' hi ⟨z, v, rfl, rfl⟩
      obtain ⟨u, rfl⟩ : ∃ u, y = V.int u := by
        rw [List.getElem?_map] at hi
        cases e : (ns.take 63)[i]? with
        | none =>
          rw [e] at hi
          cases hi
        | some u =>
          rw [e] at hi
          exact ⟨u, (Option.some.inj hi).symm⟩
      refine ⟨_, rfl, _, _, rfl, rfl, .inr ⟨by decide, by decide⟩, _, rfl, _, _, rfl, rfl, _, _, rfl, rfl, _, _, rfl, rfl, (by show (0 : Int) < 2147483629; decide), ?_⟩
      exact ⟨_, _, rfl, rfl⟩
    · rintro σ H' ⟨z, v, rfl, rfl⟩
      refine ⟨_, rfl, 63, rfl, a, _, rfl, hS1.seq hS, fun p2 hp2 => ?_⟩
      refine ⟨p2, _, rfl, .inl (SqL.of upd_same), fun l hl => ?_⟩
      refine ⟨_, rfl, (by show 5 ≤ sizeLine; decide), fun b hb => ?_⟩
      have hp2' : H p2 = none := hS1.free hp2
      have hl' : H l = none := by
        have q : l ≠ p2 := fun e => by
          rw [e, upd_same] at hl
          cases hl
        rw [upd_ne q] at hl
        exact hS1.free hl
      have nbl : b ≠ l := fun e => by
        rw [e, upd_same] at hb
        cases hb
      have hb1 := hb
      rw [upd_ne nbl] at hb1
      have nb2 : b ≠ p2 := fun e => by
        rw [e, upd_same] at hb1
        cases hb1
      rw [upd_ne nb2] at hb1
      refine k _ b l (fun c o e => ?_) (hS1.free hb1) hl' ⟨⟨0, 0, z, 0, upd_same, Int.le_refl _⟩, ?_, nbl⟩
      · rw [upd_ne (ne_of_none e (hS1.free hb1)), upd_ne (ne_of_none e hl'), upd_ne (ne_of_none e hp2')]
        exact hS1 _ _ e
      · rw [upd_ne nbl.symm, upd_same, cut63]
theorem scPull : FnScope ["_law_bag_here", "_law_many", "_law_rest", "_law_cell", "_law_one", "_law_two"] ["_law_bag_here", "_law_many"] (defScope sPull) := ⟨rfl, rfl, rfl, by decide +kernel, rfl, by decide +kernel, by decide +kernel⟩
theorem div_ok {z m : Int} (h : 0 < m) (h2 : m < 2 ^ 100) : CDivW z m := wide_div h (b := 100) (by omega) (by decide) (by decide)
theorem ok_pull {f : Addr} {fd : FuncData} (F : Fun K "_law_pull" "_law_pull" sPull f fd) (mLen : mg "len" = none) : FnOk P w K mg base CX0 1 f fd ["_law_bag_here", "_law_many"] spPull := by
  refine F.ok scPull (fun vs H Q E h => ?_) (fun cdv A outer s H vs Q E hr h => ?_)
  · obtain ⟨b, l, ns, m, rfl, _⟩ := h
    rfl
  · obtain ⟨b, l, ns, m, rfl, B, hm, hm2, k⟩ := h
    obtain ⟨⟨i, r, sd, c, hb, hi⟩, hl, nbl⟩ := id B
    refine ⟨_, pss_cons (ps_augS (pv 0) pe_int get_list pe_int ip_add set_list)
      (pss_cons (ps_if (pt_cmpR op_gt (pe_ix ix_list (pv 0) pe_int (fun _ _ => rfl)) pe_int (nomark _))
        (pss_cons (ps_set (i := 2) scPull.nd rfl (Or.inl rfl) (pe_ix ix_list (pv 0) pe_int (fun _ _ => rfl)))
          (pss_cons (ps_asg (pe_op op_fdivW (pv 2) (pv 1)) (pg_sub (pv 0) pe_int set_list))
            (pss_one (ps_ret (pe_op op_mod (pv 2) (pv 1)))))) pss_nil)
      (pss_cons (ps_set (i := 3) scPull.nd rfl (Or.inl rfl) (pe_ix ix_list (pv 0) pe_int (fun _ _ => rfl)))
      (C8.pss_cut (ps_if (pt_cmpR op_lt (pe_ix ix_list (pv 0) pe_int (fun _ _ => rfl)) (pe_callB call_len_seq (by rfl) mLen PySem.boot_len (pa_cons (pe_ix ix_list (pv 0) pe_int (fun _ _ => rfl)) pa_nil)) (nomark _))
        (pss_cons (ps_set (i := 3) scPull.nd rfl (Or.inl rfl) (pe_ix ix_list (pe_ix ix_list (pv 0) pe_int (fun _ _ => rfl)) (pe_ix ix_list (pv 0) pe_int (fun _ _ => rfl)) (fun _ _ => rfl)))
          (pss_one (ps_augS (pv 0) pe_int get_list pe_int ip_add set_list))) pss_nil)
      (pss_cons (ps_if (pt_cmpR op_ge (pv 3) (pe_op op_pow pe_int pe_int) (nomark _))
        (pss_cons (ps_asg (pe_op op_fdivW (pv 3) (pv 1)) (pg_sub (pv 0) pe_int set_list))
          (pss_one (ps_ret (pe_op op_mod (pv 3) (pv 1))))) pss_nil)
      (pss_cons (ps_set (i := 4) scPull.nd rfl (Or.inl rfl) (pe_op op_mod (pe_op op_add (pe_op op_add (pe_op op_add (pe_op op_mul (pv 3) pe_int) (pe_op op_mul (pe_ix ix_list (pv 0) pe_int (fun _ _ => rfl)) pe_int)) (pe_op op_mul (pe_ix ix_list (pv 0) pe_int (fun _ _ => rfl)) pe_int)) pe_int) pe_int))
      (pss_cons (ps_set (i := 5) scPull.nd rfl (Or.inl rfl) (pe_op op_mod (pe_op op_add (pe_op op_add (pe_op op_mul (pv 4) (pe_op op_add (pe_op op_mod (pv 4) pe_int) pe_int)) (pe_op op_mul (pe_ix ix_list (pv 0) pe_int (fun _ _ => rfl)) pe_int)) (pe_op op_mod (pe_ix ix_list (pv 0) pe_int (fun _ _ => rfl)) pe_int)) pe_int))
      (pss_cons (ps_asg (pe_op op_mod (pe_op op_add (pe_op op_mul (pe_ix ix_list (pv 0) pe_int (fun _ _ => rfl)) pe_int) (pv 5)) pe_int) (pg_sub (pv 0) pe_int set_list))
      (pss_one (ps_ret (pe_op op_mod (pe_op op_fdiv (pv 5) pe_int) (pv 1))))))))))), ?_⟩
    -- bag[4] += 1
    refine ⟨_, rfl, b, _, 4, _, rfl, rfl, SqL.of hb, rfl, _, _, rfl, rfl, b, _, 4, 4, rfl, rfl, hb, rfl, ?_⟩
    have hb1 : upd H b (.lst [.ref l, .int i, .int r, .int sd, .int (c + 1)]) b = some (.lst [.ref l, .int i, .int r, .int sd, .int (c + 1)]) := upd_same
    have hl1 : upd H b (.lst [.ref l, .int i, .int r, .int sd, .int (c + 1)]) l = some (.lst (ns.map V.int)) := by
      rw [upd_ne nbl.symm]
      exact hl
    -- if bag[2] > 0
    refine ⟨_, rfl, b, _, 2, _, rfl, rfl, SqL.of hb1, rfl, _, _, rfl, rfl, _, rfl, ?_⟩
    refine ite2 (fun _ => ?_) (fun _ => ?_)
    · refine ⟨_, rfl, b, _, 2, _, rfl, rfl, SqL.of hb1, rfl, _, rfl, _, rfl, _, _, rfl, rfl, div_ok hm hm2, _, rfl, b, _, 2, 2, rfl, rfl, hb1, rfl, _, rfl, _, rfl, _, _, rfl, rfl, hm, ?_⟩
      refine k _ _ (Int.emod_nonneg _ (by omega)) (Int.emod_lt_of_pos _ hm) ?_ ?_
      · exact Off.upd.trans Off.upd
      · rw [upd_upd]
        exact B.put hi
    · refine ⟨_, rfl, b, _, 3, _, rfl, rfl, SqL.of hb1, rfl, ?_⟩
      refine ⟨fun σ' H' => ∃ (z j : Int), σ' = [some (.ref b), some (.int m), none, some (.int z), none, none] ∧ H' = upd H b (.lst [.ref l, .int j, .int r, .int sd, .int (c + 1)]) ∧ 0 ≤ j, ?_, ?_⟩
      · refine ⟨_, rfl, b, _, 1, _, rfl, rfl, SqL.of hb1, rfl, _, rfl, b, _, 0, _, rfl, rfl, SqL.of hb1, rfl, l, _, rfl, .inl (SqL.of hl1), _, _, rfl, rfl, _, rfl, ?_⟩
        refine ite2 (fun hc => ?_) (fun _ => ?_)
        · have hlt : i < ((ns.map V.int).length : Int) := of_decide_eq_true hc
          rw [List.length_map] at hlt
          obtain ⟨j, rfl⟩ := Int.eq_ofNat_of_zero_le hi
          have hj : j < ns.length := by omega
          have hat : (ns.map V.int)[j]? = some (.int ns[j]) := by
            rw [List.getElem?_map, List.getElem?_eq_getElem hj]
            rfl
          refine ⟨_, rfl, b, _, 0, _, rfl, rfl, SqL.of hb1, rfl, _, rfl, b, _, 1, _, rfl, rfl, SqL.of hb1, rfl, l, _, _, _, rfl, rfl, SqL.of hl1, atI_nat hat, ?_⟩
          refine ⟨_, rfl, b, _, 1, _, rfl, rfl, SqL.of hb1, rfl, _, _, rfl, rfl, b, _, 1, 1, rfl, rfl, hb1, rfl, ?_⟩
          exact ⟨_, (j : Int) + 1, rfl, upd_upd, by omega⟩
        · exact ⟨sd, i, rfl, rfl, hi⟩
      · rintro σ' H' ⟨z, j, rfl, rfl, hj⟩
        have hb2 : upd H b (.lst [.ref l, .int j, .int r, .int sd, .int (c + 1)]) b = some (.lst [.ref l, .int j, .int r, .int sd, .int (c + 1)]) := upd_same
        refine ⟨_, rfl, _, _, rfl, rfl, ⟨by decide, by decide, by decide⟩, _, _, rfl, rfl, _, rfl, ?_⟩
        refine ite2 (fun _ => ?_) (fun _ => ?_)
        · refine ⟨_, rfl, _, rfl, _, _, rfl, rfl, div_ok hm hm2, _, rfl, b, _, 2, 2, rfl, rfl, hb2, rfl, _, rfl, _, rfl, _, _, rfl, rfl, hm, ?_⟩
          refine k _ _ (Int.emod_nonneg _ (by omega)) (Int.emod_lt_of_pos _ hm) (Off.upd.trans Off.upd) ?_
          rw [upd_upd]
          exact B.put hj
        · refine ⟨_, rfl, _, _, rfl, rfl, .inr ⟨by decide, by decide⟩, _, rfl, b, _, 3, _, rfl, rfl, SqL.of hb2, rfl, _, _, rfl, rfl, .inr ⟨by decide, by decide⟩, _, _, rfl, rfl, _, rfl, b, _, 4, _, rfl, rfl, SqL.of hb2, rfl, _, _, rfl, rfl, .inr ⟨by decide, by decide⟩, _, _, rfl, rfl, _, _, rfl, rfl, _, _, rfl, rfl, (by show (0 : Int) < 2147483629; decide), ?_⟩
          generalize hone : ((z * 48271 + sd * 40503 + (c + 1) * 69621 + 9176) % 2147483629 : Int) = one
          have h1 : 0 ≤ one := by rw [← hone]; exact Int.emod_nonneg _ (by decide)
          have h2 : one < 2147483629 := by rw [← hone]; exact Int.emod_lt_of_pos _ (by decide)
          refine ⟨_, rfl, _, rfl, _, _, rfl, rfl, (by show (0 : Int) < 65521; decide), _, _, rfl, rfl, _, _, rfl, rfl, .inl ⟨by omega, by omega⟩, _, rfl, b, _, 4, _, rfl, rfl, SqL.of hb2, rfl, _, _, rfl, rfl, .inr ⟨by decide, by decide⟩, _, _, rfl, rfl, _, rfl, b, _, 3, _, rfl, rfl, SqL.of hb2, rfl, _, _, rfl, rfl, (by show (0 : Int) < 104729; decide), _, _, rfl, rfl, _, _, rfl, rfl, (by show (0 : Int) < 998244353; decide), ?_⟩
          refine ⟨_, rfl, b, _, 3, _, rfl, rfl, SqL.of hb2, rfl, _, _, rfl, rfl, .inr ⟨by decide, by decide⟩, _, rfl, _, _, rfl, rfl, _, _, rfl, rfl, (by show (0 : Int) < 2147483563; decide), _, rfl, b, _, 3, 3, rfl, rfl, hb2, rfl, _, rfl, _, _, rfl, rfl, ⟨by decide, by decide⟩, _, rfl, _, _, rfl, rfl, hm, ?_⟩
          refine k _ _ (Int.emod_nonneg _ (by omega)) (Int.emod_lt_of_pos _ hm) (Off.upd.trans Off.upd) ?_
          rw [upd_upd]
          exact B.put hj
end
end KW
set_option Elab.async false
set_option maxRecDepth 100000
/-! The law's drawing: of, far, mixed, web. -/
namespace KW
open PySem PySem.Spec PyProof.Rows L2
/-! ### heaps -/
/-- what stood stands, but for b -/
def Grow (b : Addr) (H H' : Hp) : Prop := ∀ a o, a ≠ b → H a = some o → H' a = some o
theorem Grow.refl (b : Addr) (H : Hp) : Grow b H H := fun _ _ _ h => h
theorem Grow.trans {b : Addr} {H H1 H2 : Hp} (x : Grow b H H1) (y : Grow b H1 H2) : Grow b H H2 := fun a o n h => y a o n (x a o n h)
theorem Off.grow {b : Addr} {H H' : Hp} (x : Off b H H') : Grow b H H' := fun a o n h => (x a n).trans h
theorem Grow.new {b : Addr} {H H1 : Hp} (x : Grow b H H1) {p : Addr} {o : HO} (n : H p = none) : Grow b H (upd H1 p o) := fun a u na h => by
  rw [upd_ne (ne_of_none h n)]
  exact x a u na h
/-- what never changes: tuples, locked things -/
def Fix : HO → Prop
  | .tup _ => True
  | .frz _ _ => True
  | _ => False
/-- they stay -/
def Kp (H H' : Hp) : Prop := ∀ a o, Fix o → H a = some o → H' a = some o
theorem Kp.t {H H' : Hp} (k : Kp H H') {a : Addr} {xs : List V} (h : H a = some (.tup xs)) : H' a = some (.tup xs) := k a _ trivial h
theorem Kp.f {H H' : Hp} (k : Kp H H') {a : Addr} {xs : List V} (h : FzT H a xs) : FzT H' a xs := by
  obtain ⟨o, h, d⟩ := h
  exact ⟨o, k a _ trivial h, d⟩
theorem Kp.refl (H : Hp) : Kp H H := fun _ _ _ h => h
theorem Kp.trans {H H1 H2 : Hp} (x : Kp H H1) (y : Kp H1 H2) : Kp H H2 := fun a o f h => y a o f (x a o f h)
theorem Fix.ne {o : HO} (f : Fix o) {xs : List V} : o ≠ .lst xs := fun z => by
  subst z
  exact f
theorem Kp.off {b : Addr} {H H' : Hp} {xs : List V} (h : H b = some (.lst xs)) (x : Off b H H') : Kp H H' := fun a o f e => by
  rw [x a (ne_of e h f.ne)]
  exact e
theorem Kp.grow {b : Addr} {H H' : Hp} {xs : List V} (h : H b = some (.lst xs)) (x : Grow b H H') : Kp H H' := fun a o f e => x a _ (ne_of e h f.ne) e
theorem Kp.new {H : Hp} {p : Addr} {o : HO} (n : H p = none) : Kp H (upd H p o) := fun a u _ h => by
  rw [upd_ne (ne_of_none h n)]
  exact h
theorem Kp.put {H : Hp} {p : Addr} {xs : List V} {o : HO} (h : H p = some (.lst xs)) : Kp H (upd H p o) := fun a u f e => by
  rw [upd_ne (ne_of e h f.ne)]
  exact e
theorem BagAt.list {b l : Addr} {ns : List Int} {H : Hp} (B : BagAt b l ns H) : ∃ xs, H b = some (.lst xs) := by
  obtain ⟨⟨i, r, s, c, h, _⟩, _⟩ := B
  exact ⟨_, h⟩
theorem BagAt.new {b l : Addr} {ns : List Int} {H : Hp} (B : BagAt b l ns H) {p : Addr} {o : HO} (n : H p = none) : BagAt b l ns (upd H p o) := by
  obtain ⟨⟨i, r, s, c, h, hi⟩, hl, nbl⟩ := B
  exact ⟨⟨i, r, s, c, by rw [upd_ne (ne_of_none h n)]; exact h, hi⟩, by rw [upd_ne (ne_of_none hl n)]; exact hl, nbl⟩
/-- another list is written -/
theorem BagAt.other {b l : Addr} {ns : List Int} {H : Hp} (B : BagAt b l ns H) {p : Addr} {o : HO} (n1 : b ≠ p) (n2 : l ≠ p) : BagAt b l ns (upd H p o) := by
  obtain ⟨⟨i, r, s, c, h, hi⟩, hl, nbl⟩ := B
  exact ⟨⟨i, r, s, c, by rw [upd_ne n1]; exact h, hi⟩, by rw [upd_ne n2]; exact hl, nbl⟩
theorem BagAt.nb {b l : Addr} {ns : List Int} {H : Hp} (B : BagAt b l ns H) {p : Addr} (n : H p = none) : b ≠ p := by
  obtain ⟨xs, h⟩ := B.list
  exact ne_of_none h n
theorem BagAt.nl {b l : Addr} {ns : List Int} {H : Hp} (B : BagAt b l ns H) {p : Addr} (n : H p = none) : l ≠ p := ne_of_none B.2.1 n
/-! ### pairs -/
def IsP (H : Hp) (v : V) (p : Nat × Nat) : Prop := ∃ a, v = .ref a ∧ H a = some (.tup [.int p.1, .int p.2])
abbrev PairsIn (H : Hp) (as : List V) (ps : List (Nat × Nat)) : Prop := Paired (IsP H) as ps
theorem IsP.kp {H H' : Hp} {v : V} {p : Nat × Nat} (k : Kp H H') (h : IsP H v p) : IsP H' v p := by
  obtain ⟨a, e, h⟩ := h
  exact ⟨a, e, k.t h⟩
theorem PairsIn.kp {H H' : Hp} (k : Kp H H') : ∀ {as : List V} {ps : List (Nat × Nat)}, PairsIn H as ps → PairsIn H' as ps
  | _, _, .nil => .nil
  | _, _, .cons a r => .cons (a.kp k) (PairsIn.kp k r)
theorem paired_snoc {α β : Type} {R : α → β → Prop} : ∀ {as : List α} {bs : List β} {a : α} {b : β}, Paired R as bs → R a b → Paired R (as ++ [a]) (bs ++ [b])
  | _, _, _, _, .nil, h => .cons h .nil
  | _, _, _, _, .cons x r, h => .cons x (paired_snoc r h)
theorem paired_perm {α β : Type} {R : α → β → Prop} {xs ys : List α} (h : ys.Perm xs) : ∀ {bs : List β}, Paired R xs bs → ∃ cs, Paired R ys cs ∧ cs.Perm bs := by
  induction h with
  | nil => intro bs r; cases r; exact ⟨[], .nil, .nil⟩
  | cons x p ih =>
    intro bs r
    cases r with
    | cons a r =>
      obtain ⟨cs, h1, h2⟩ := ih r
      exact ⟨_, .cons a h1, h2.cons _⟩
  | swap x y l =>
    intro bs r
    cases r with
    | cons a r =>
      cases r with
      | cons a' r => exact ⟨_, .cons a' (.cons a r), .swap ..⟩
  | trans p q ih1 ih2 =>
    intro bs r
    obtain ⟨cs, h1, h2⟩ := ih2 r
    obtain ⟨ds, h3, h4⟩ := ih1 h1
    exact ⟨ds, h3, h4.trans h2⟩
theorem erase_perm {α : Type} : ∀ {xs : List α} {k : Nat} {y : α}, xs[k]? = some y → (y :: xs.eraseIdx k).Perm xs
  | [], k, y, h => by simp at h
  | x :: xs, 0, y, h => by
    have e : x = y := by simpa using h
    subst e
    exact List.Perm.refl _
  | x :: xs, k + 1, y, h => by
    have ih := erase_perm (xs := xs) (k := k) (y := y) (by simpa using h)
    show (y :: x :: xs.eraseIdx k).Perm (x :: xs)
    exact (List.Perm.swap ..).trans (ih.cons x)
/-- n rooms, arrows ps, an arrow out of each room -/
def Good (n : Nat) (ps : List (Nat × Nat)) : Prop := 1 ≤ n ∧ (∀ p ∈ ps, p.1 < n ∧ p.2 < n) ∧ ∀ r, r < n → ∃ p ∈ ps, p.1 = r
def WebT (H : Hp) (t : Addr) (n : Nat) (ps : List (Nat × Nat)) : Prop := ∃ q as, H t = some (.tup [.int n, .ref q]) ∧ FzT H q as ∧ PairsIn H as ps ∧ Good n ps
theorem WebT.kp {H H' : Hp} (k : Kp H H') {t n ps} (h : WebT H t n ps) : WebT H' t n ps := by
  obtain ⟨q, as, h1, h2, h3, h4⟩ := h
  exact ⟨q, as, k.t h1, k.f h2, PairsIn.kp k h3, h4⟩
theorem WebT.two {H : Hp} {t q n ps} {m : Int} (h : WebT H t n ps) (e : H t = some (.tup [.int m, .ref q])) : m = n ∧ ∃ as, FzT H q as ∧ PairsIn H as ps := by
  obtain ⟨q', as, h1, h2, h3, h4⟩ := h
  rw [h1] at e
  cases e
  exact ⟨rfl, as, h2, h3⟩
/-! ### promises -/
abbrev sMixed : Stmt := topS 22
abbrev sWeb : Stmt := topS 23
def spMixed (K : PySem.W.Frag) : Sp := fun vs H Q _ => ∃ (b l a : Addr) (ns : List Int) (xs : List V), vs = [.ref b, .ref a] ∧ BagAt b l ns H ∧ SqL K H a xs ∧ xs.length ≤ 1000 ∧
  ∀ (H' : Hp) (p : Addr) (ys : List V), Grow b H H' → H p = none → H' p = some (.lst ys) → ys.Perm xs → BagAt b l ns H' → Q (.ref p) H'
def spWeb : Sp := fun vs H Q _ => ∃ (b l : Addr) (ns : List Int) (rm mm : Nat), vs = [.ref b, .int rm, .int mm] ∧ BagAt b l ns H ∧ 1 ≤ rm ∧ rm ≤ 100 ∧ mm ≤ 100 ∧
  ∀ (H' : Hp) (t : Addr) (n : Nat) (ps : List (Nat × Nat)), Grow b H H' → WebT H' t n ps → n ≤ rm → ps.length ≤ rm + mm → BagAt b l ns H' → Q (.ref t) H'
section
variable {P : Program} {w : World} {K : PySem.W.Frag} {mg : Str → Option Value} {base : Heap}
theorem scMixed : FnScope ["_law_bag_here", "_law_some", "_law_left", "_law_found", "_law_k"] ["_law_bag_here", "_law_some"] (defScope sMixed) := ⟨rfl, rfl, rfl, by decide +kernel, rfl, by decide +kernel, by decide +kernel⟩
theorem ok_mixed {f fP : Addr} {fd fdP : FuncData} (F : Fun K "_law_mixed" "_law_mixed" sMixed f fd) (GP : FnOk P w K mg base CX0 1 fP fdP ["_law_bag_here", "_law_many"] spPull) (bP : Binds K fdP ["_law_bag_here", "_law_many"] []) (mP : mg "_law_pull" = some (.ref fP)) (kP : PySem.W.keepIn K (.ref fP) = true)
    (mLen : mg "len" = none) (mList : mg "list" = none) (mRange : mg "range" = none) : FnOk P w K mg base CX0 2 f fd ["_law_bag_here", "_law_some"] (spMixed K) := by
  refine F.ok scMixed (fun vs H Q E h => ?_) (fun cdv A outer s H vs Q E hr h => ?_)
  · obtain ⟨b, l, a, ns, xs, rfl, _⟩ := h
    rfl
  · obtain ⟨b, l, a, ns, xs, rfl, B, hS, hlen, k⟩ := h
    refine ⟨_, pss_cons (ps_par (by rfl) scMixed.nd (i := 2) (j := 3) rfl rfl (by decide) rfl rfl (pa_cons (pe_callTy call_list_of (by rfl) mList (by decide +kernel) (pa_cons (pv 1) pa_nil)) (pa_cons (pe_lst pa_nil) pa_nil)) (by rfl))
      (pss_cons (ps_for PassesOwn.never rfl (pi_range1 (by rfl) mRange (pa_cons (pe_callB call_len_seq (by rfl) mLen PySem.boot_len (pa_cons (pv 1) pa_nil)) pa_nil)) (pg_name (i := 4) scMixed.nd rfl (Or.inl rfl))
        (pss_one (ps_expr (pe_bm PySem.F.plainAttrs_list PySem.F.slot_list_append PySem.F.type_list_append mt_append (pv 3) (pa_cons
          (pe_bm PySem.F.plainAttrs_list PySem.F.slot_list_pop PySem.F.type_list_pop mt_popAt (pv 2) (pa_cons
            (pe_call GP hr rfl mP kP bP .nil pass0 (pa_cons (pv 0) (pa_cons (pe_callB call_len_seq (by rfl) mLen PySem.boot_len (pa_cons (pv 2) pa_nil)) pa_nil))) pa_nil)) pa_nil)))))
      (pss_one (ps_ret (pv 3)))), ?_⟩
    refine ⟨_, rfl, a, xs, rfl, .inl hS, fun lf hlf => ⟨Nat.zero_le _, fun fd' hfd => ⟨_, _, rfl, ?_⟩⟩⟩
    have nfl : fd' ≠ lf := fun e => by
      rw [e, upd_same] at hfd
      cases hfd
    have hfd0 : H fd' = none := by
      rw [upd_ne nfl] at hfd
      exact hfd
    have S2 : Same H (upd (upd H lf (.lst xs)) fd' (.lst [])) := fun c o e => by
      rw [upd_ne (ne_of_none e hfd0), upd_ne (ne_of_none e hlf)]
      exact e
    have G2 : Grow b H (upd (upd H lf (.lst xs)) fd' (.lst [])) := fun c o _ e => S2 c o e
    refine ⟨_, rfl, a, xs, rfl, .inl (S2.seq hS), _, rfl, by omega, by omega, for_range (lo := 0) (n := xs.length) (fun i σ H' => ∃ (v : Option V) (L Fo : List V), σ = [some (.ref b), some (.ref a), some (.ref lf), some (.ref fd'), v] ∧ H' lf = some (.lst L) ∧ H' fd' = some (.lst Fo) ∧
        (Fo ++ L).Perm xs ∧ Fo.length = i ∧ BagAt b l ns H' ∧ Grow b H H')
      ⟨none, xs, [], rfl, by rw [upd_ne nfl.symm, upd_same], upd_same, List.Perm.refl _, rfl, (B.new hlf).new hfd, G2⟩ ?_ ?_⟩
    · rintro i σ H' hi ⟨v, L, Fo, rfl, hL, hF, hp, hfl, B', G'⟩
      have hll : Fo.length + L.length = xs.length := by
        have := hp.length_eq
        rw [List.length_append] at this
        exact this
      have nbl : b ≠ lf := B.nb hlf
      have nbf : b ≠ fd' := B.nb hfd0
      have nll : l ≠ lf := B.nl hlf
      have nlf : l ≠ fd' := B.nl hfd0
      refine ⟨_, rfl, .inl ⟨rfl, _, SqL.of hF⟩, _, rfl, .inl ⟨rfl, _, SqL.of hL⟩, _, rfl, _, rfl, lf, _, rfl, .inl (SqL.of hL), b, l, ns, _, rfl, B', by omega, by omega, fun H2 r h0 h1 O2 B2 => ?_⟩
      have hL2 : H2 lf = some (.lst L) := by rw [O2 lf nbl.symm]; exact hL
      have hF2 : H2 fd' = some (.lst Fo) := by rw [O2 fd' nbf.symm]; exact hF
      obtain ⟨j, rfl⟩ := Int.eq_ofNat_of_zero_le h0
      have hj : j < L.length := by omega
      have hat : L[j]? = some L[j] := List.getElem?_eq_getElem hj
      have hsq : seqIndex? ((j : Nat) : Int) L.length = some j := by
        rw [seqIndex_of (by omega) (by omega)]
        rfl
      refine ⟨lf, _, _, j, _, rfl, rfl, hL2, by omega, by omega, hsq, hat, fd', _, _, rfl, rfl, Eq.trans (upd_ne nfl) hF2, by rw [sizeLine_eq]; omega, ?_⟩
      refine ⟨_, L.eraseIdx j, Fo ++ [L[j]], rfl, by rw [upd_ne nfl.symm, upd_same], upd_same, ?_, by simp [hfl], (B2.other nbl nll).other nbf nlf, ((G'.trans O2.grow).new hlf).new hfd0⟩
      rw [List.append_assoc]
      exact ((erase_perm hat).append_left Fo).trans hp
    · rintro σ H' ⟨v, L, Fo, rfl, hL, hF, hp, hfl, B', G'⟩
      have hll : L = [] := by
        have := hp.length_eq
        rw [List.length_append] at this
        exact List.length_eq_zero_iff.mp (by omega)
      subst hll
      rw [List.append_nil] at hp
      exact ⟨_, rfl, k H' fd' Fo G' hfd0 hF hp B'⟩
end
end KW
set_option Elab.async false
set_option maxRecDepth 100000
/-! The law's drawing: a web. -/
namespace KW
open PySem PySem.Spec PyProof.Rows L2
theorem good_perm {n : Nat} {ps qs : List (Nat × Nat)} (h : qs.Perm ps) (g : Good n ps) : Good n qs := by
  obtain ⟨h1, h2, h3⟩ := g
  refine ⟨h1, fun p hp => h2 p (h.mem_iff.mp hp), fun r hr => ?_⟩
  obtain ⟨p, hp, e⟩ := h3 r hr
  exact ⟨p, h.mem_iff.mpr hp, e⟩
section
variable {P : Program} {w : World} {K : PySem.W.Frag} {mg : Str → Option Value} {base : Heap}
theorem scWeb : FnScope ["_law_bag_here", "_law_rooms_most", "_law_more_most", "_law_rooms", "_law_pairs", "_law_k", "_law_room"] ["_law_bag_here", "_law_rooms_most", "_law_more_most"] (defScope sWeb) := ⟨rfl, rfl, rfl, by decide +kernel, rfl, by decide +kernel, by decide +kernel⟩
theorem ok_web {f fP fM : Addr} {fd fdP fdM : FuncData} (F : Fun K "_law_web" "_law_web" sWeb f fd) (GP : FnOk P w K mg base CX0 1 fP fdP ["_law_bag_here", "_law_many"] spPull) (bP : Binds K fdP ["_law_bag_here", "_law_many"] []) (mP : mg "_law_pull" = some (.ref fP)) (kP : PySem.W.keepIn K (.ref fP) = true)
    (GM : FnOk P w K mg base CX0 2 fM fdM ["_law_bag_here", "_law_some"] (spMixed K)) (bM : Binds K fdM ["_law_bag_here", "_law_some"] []) (mM : mg "_law_mixed" = some (.ref fM)) (kM : PySem.W.keepIn K (.ref fM) = true)
    (mRange : mg "range" = none) (mTuple : mg "tuple" = none) : FnOk P w K mg base CX0 3 f fd ["_law_bag_here", "_law_rooms_most", "_law_more_most"] spWeb := by
  refine F.ok scWeb (fun vs H Q E h => ?_) (fun cdv A outer s H vs Q E hr h => ?_)
  · obtain ⟨b, l, ns, rm, mm, rfl, _⟩ := h
    rfl
  · obtain ⟨b, l, ns, rm, mm, rfl, B, hrm, hrm2, hmm, k⟩ := h
    have hr1 : Room 1 _ := hr.mono (by decide)
    refine ⟨_, pss_cons (ps_set (i := 3) scWeb.nd rfl (Or.inr rfl) (pe_op op_add pe_int (pe_call GP hr1 rfl mP kP bP .nil pass0 (pa_cons (pv 0) (pa_cons (pv 1) pa_nil)))))
      (pss_cons (ps_setLc (i := 4) (own := [("_law_room", 6)]) (g := gName 6) (tt := tYes) rfl scWeb.nd rfl rfl (sw_true rfl rfl rfl (by decide +kernel)) (pi_range1 (by rfl) mRange (pa_cons (pv 3) pa_nil))
          (blkOk_by (own := [("_law_room", 6)]) (N := ["_law_bag_here", "_law_rooms_most", "_law_more_most", "_law_rooms", "_law_pairs", "_law_k", "_law_room"]) (sc := defScope sWeb) (by decide +kernel))
          (fun _ _ _ _ _ => pg_name (i := 6) scWeb.nd rfl (Or.inl rfl)) (fun _ _ _ _ _ => pts_nil)
          (fun _ _ _ _ _ => pe_tup (pa_cons (pv 6) (pa_cons (pe_call GP hr1 rfl mP kP bP .nil pass0 (pa_cons (pv 0) (pa_cons (pv 3) pa_nil))) pa_nil))))
      (pss_cons (ps_for PassesOwn.never rfl (pi_range1 (by rfl) mRange (pa_cons (pe_call GP hr1 rfl mP kP bP .nil pass0 (pa_cons (pv 0) (pa_cons (pe_op op_add (pv 2) pe_int) pa_nil))) pa_nil)) (pg_name (i := 5) scWeb.nd rfl (Or.inl rfl))
        (pss_one (ps_expr (pe_bm PySem.F.plainAttrs_list PySem.F.slot_list_append PySem.F.type_list_append mt_append (pv 4) (pa_cons
          (pe_tup (pa_cons (pe_call GP hr1 rfl mP kP bP .nil pass0 (pa_cons (pv 0) (pa_cons (pv 3) pa_nil))) (pa_cons (pe_call GP hr1 rfl mP kP bP .nil pass0 (pa_cons (pv 0) (pa_cons (pv 3) pa_nil))) pa_nil))) pa_nil)))))
      (pss_one (ps_ret (pe_tup (pa_cons (pv 3) (pa_cons (pe_callTy call_tupleF (by rfl) mTuple (by decide +kernel) (pa_cons (pe_call GM hr rfl mM kM bM .nil pass0 (pa_cons (pv 0) (pa_cons (pv 4) pa_nil))) pa_nil)) pa_nil))))))), ?_⟩
    -- rooms
    refine ⟨_, rfl, _, rfl, b, l, ns, _, rfl, B, by omega, by omega, fun H1 r1 h0 h1 O1 B1 => ?_⟩
    obtain ⟨j, rfl⟩ := Int.eq_ofNat_of_zero_le h0
    obtain ⟨n, hn⟩ : ∃ n : Nat, n = 1 + j := ⟨_, rfl⟩
    have hnn : ((1 : Int) + (j : Int)) = (n : Int) := by omega
    refine ⟨_, _, rfl, rfl, ?_⟩
    dsimp only
    rw [hnn]
    -- pairs
    refine ⟨_, rfl, _, rfl, by omega, by omega, fun D hD => ?_⟩
    refine lc_range (lo := 0) (n := n) (fun i H' => ∃ (as : List V) (ps : List (Nat × Nat)), H' D = some (.lst as) ∧ PairsIn H' as ps ∧ ps.map (·.1) = List.range i ∧ (∀ p ∈ ps, p.1 < n ∧ p.2 < n) ∧ BagAt b l ns H' ∧ Grow b H1 H')
      ⟨[], [], upd_same, .nil, rfl, fun p hp => absurd hp (by simp), B1.new hD, (Grow.refl b H1).new hD⟩ ?_ ?_
    · rintro i H' hi ⟨as, ps, hA, hP, hps, hb, B', G'⟩
      refine ⟨rfl, _, rfl, _, rfl, _, rfl, b, l, ns, _, rfl, B', by omega, by omega, fun H2 r h0 h1 O2 B2 => ⟨by show 2 ≤ sizeLine; decide, fun T hT => ?_⟩⟩
      obtain ⟨m, rfl⟩ := Int.eq_ofNat_of_zero_le h0
      have nbD : b ≠ D := B1.nb hD
      have nlD : l ≠ D := B1.nl hD
      have hA2 : H2 D = some (.lst as) := by rw [O2 D nbD.symm]; exact hA
      have nDT : D ≠ T := ne_of_none hA2 hT
      obtain ⟨xs, hbl⟩ := B'.list
      have hlen : as.length = i := by
        rw [Paired.length hP, ← List.length_map (f := (·.1)), hps, List.length_range]
      refine ⟨as, Eq.trans (upd_ne nDT) hA2, by rw [sizeLine_eq]; omega, as ++ [.ref T], ps ++ [(i, m)], upd_same, ?_, ?_, ?_, (B2.new hT).other nbD nlD, ?_⟩
      · have k1 : Kp H' (upd (upd H2 T (.tup [.int (0 + (i : Nat)), .int (m : Nat)])) D (.lst (as ++ [.ref T]))) := ((Kp.off hbl O2).trans (Kp.new hT)).trans (Kp.put (Eq.trans (upd_ne nDT) hA2))
        refine paired_snoc (PairsIn.kp k1 hP) ⟨T, rfl, ?_⟩
        rw [upd_ne nDT.symm, upd_same]
        show some (HO.tup [.int (0 + (i : Int)), .int (m : Int)]) = some (HO.tup [.int (i : Int), .int (m : Int)])
        rw [Int.zero_add]
      · rw [List.map_append, hps, List.range_succ]
        rfl
      · intro p hp
        rcases List.mem_append.mp hp with q | q
        · exact hb p q
        · have e : p = (i, m) := by simpa using q
          subst e
          exact ⟨hi, by omega⟩
      · intro a o na e
        have nT : H1 T = none := by
          cases q : H1 T with
          | none => rfl
          | some u =>
            have nTb : T ≠ b := fun z => by
              obtain ⟨ys, hy⟩ := B2.list
              rw [z, hy] at hT
              cases hT
            have := O2.grow T u nTb (G' T u nTb q)
            rw [this] at hT
            cases hT
        rw [upd_ne (ne_of_none e hD), upd_ne (ne_of_none e nT)]
        exact O2.grow a o na (G' a o na e)
    · rintro H2 ⟨as, ps, hA, hP, hps, hb, B2, G2⟩
      have hbD : H1 D = none := hD
      have nbD : b ≠ D := B1.nb hD
      have nlD : l ≠ D := B1.nl hD
      have hpl : ps.length = n := by rw [← List.length_map (f := (·.1)), hps, List.length_range]
      refine ⟨_, rfl, _, rfl, _, _, rfl, rfl, b, l, ns, _, rfl, B2, by omega, by omega, fun H3 r3 h0 h3 O3 B3 => ?_⟩
      obtain ⟨m, rfl⟩ := Int.eq_ofNat_of_zero_le h0
      obtain ⟨x2, hx2⟩ := B2.list
      have hA3 : H3 D = some (.lst as) := by rw [O3 D nbD.symm]; exact hA
      refine ⟨_, rfl, by omega, by omega, for_range (lo := 0) (n := m) (fun i σ H' => ∃ (v : Option V) (as : List V) (ps : List (Nat × Nat)), σ = [some (.ref b), some (.int rm), some (.int mm), some (.int n), some (.ref D), v, none] ∧ H' D = some (.lst as) ∧ PairsIn H' as ps ∧ Good n ps ∧ ps.length ≤ n + i ∧ BagAt b l ns H' ∧ Grow b H1 H')
        ⟨none, as, ps, rfl, hA3, PairsIn.kp (Kp.off hx2 O3) hP, ⟨by omega, hb, fun r hr' => ?_⟩, by omega, B3, G2.trans O3.grow⟩ ?_ ?_⟩
      · have hm : r ∈ ps.map (·.1) := by rw [hps]; exact List.mem_range.mpr hr'
        obtain ⟨p, hp, e⟩ := List.mem_map.mp hm
        exact ⟨p, hp, e⟩
      · rintro i σ H' hi ⟨v, as, ps, rfl, hA, hP, hG, hl, B', G'⟩
        refine ⟨_, rfl, .inl ⟨rfl, _, SqL.of hA⟩, _, rfl, _, rfl, b, l, ns, _, rfl, B', by omega, by omega, fun H4 r4 h04 h4 O4 B4 => ?_⟩
        refine ⟨_, rfl, _, rfl, b, l, ns, _, rfl, B4, by omega, by omega, fun H5 r5 h05 h5 O5 B5 => ⟨by show 2 ≤ sizeLine; decide, fun T hT => ?_⟩⟩
        obtain ⟨u, rfl⟩ := Int.eq_ofNat_of_zero_le h04
        obtain ⟨v5, rfl⟩ := Int.eq_ofNat_of_zero_le h05
        have hA5 : H5 D = some (.lst as) := by rw [O5 D nbD.symm, O4 D nbD.symm]; exact hA
        have nDT : D ≠ T := ne_of_none hA5 hT
        obtain ⟨x4, hx4⟩ := B'.list
        obtain ⟨x5, hx5⟩ := B4.list
        have hlen : as.length = ps.length := Paired.length hP
        have k1 : Kp H' (upd (upd H5 T (.tup [.int (u : Nat), .int (v5 : Nat)])) D (.lst (as ++ [.ref T]))) := (((Kp.off hx4 O4).trans (Kp.off hx5 O5)).trans (Kp.new hT)).trans (Kp.put (Eq.trans (upd_ne nDT) hA5))
        refine ⟨D, as, _, rfl, rfl, Eq.trans (upd_ne nDT) hA5, by rw [sizeLine_eq]; omega, ?_⟩
        refine ⟨_, as ++ [.ref T], ps ++ [(u, v5)], rfl, upd_same, paired_snoc (PairsIn.kp k1 hP) ⟨T, rfl, by rw [upd_ne nDT.symm, upd_same]⟩, ⟨hG.1, ?_, fun r hr' => ?_⟩, by rw [List.length_append, List.length_singleton]; omega, (B5.new hT).other nbD nlD, ?_⟩
        · intro p hp
          rcases List.mem_append.mp hp with q | q
          · exact hG.2.1 p q
          · have e : p = (u, v5) := by simpa using q
            subst e
            exact ⟨by omega, by omega⟩
        · obtain ⟨p, hp, e⟩ := hG.2.2 r hr'
          exact ⟨p, List.mem_append_left _ hp, e⟩
        · intro a o na e
          have e5 : H5 a = some o := O5.grow a o na (O4.grow a o na (G' a o na e))
          rw [upd_ne (ne_of_none e hbD), upd_ne (ne_of_none e5 hT)]
          exact e5
      · rintro σ H' ⟨v, as, ps, rfl, hA, hP, hG, hl, B', G'⟩
        have hlen : as.length = ps.length := Paired.length hP
        refine ⟨_, rfl, _, rfl, _, rfl, b, l, D, ns, as, rfl, B', SqL.of hA, by omega, fun H6 p6 ys G6 n6 h6 hperm B6 => ?_⟩
        refine ⟨p6, ys, rfl, SqL.of h6, fun q oq hq hdq => ⟨by show 2 ≤ sizeLine; decide, fun t ht => ?_⟩⟩
        obtain ⟨x6, hx6⟩ := B'.list
        obtain ⟨qs, hq1, hq2⟩ := paired_perm hperm (PairsIn.kp (Kp.grow hx6 G6) hP)
        have nqt : q ≠ t := fun e => by
          rw [← e, upd_same] at ht
          cases ht
        have ht6 : H6 t = none := by
          rw [upd_ne nqt.symm] at ht
          exact ht
        refine k _ t n qs ?_ ⟨q, ys, upd_same, ⟨oq, by rw [upd_ne nqt, upd_same], hdq⟩, PairsIn.kp ((Kp.new hq).trans (Kp.new ht)) hq1, good_perm hq2 hG⟩ (by omega) (by rw [hq2.length_eq]; omega) ((B6.new hq).new ht)
        intro a o na e
        have e6 : H6 a = some o := G6 a o na (G' a o na (O1.grow a o na e))
        rw [upd_ne (ne_of_none e6 ht6), upd_ne (ne_of_none e6 hq)]
        exact e6
end
end KW
set_option Elab.async false
set_option maxRecDepth 100000
/-! The program's webs: is_pair, pairs_of, gathered. -/
namespace KW
open PySem PySem.Spec PyProof.Rows L2
abbrev sIsPair : Stmt := topS 14
abbrev sPairsOf : Stmt := topS 15
abbrev sGathered : Stmt := topS 16
theorem IsR.kp {H H' : Hp} {v : V} {l : List Nat} (k : Kp H H') (h : IsR H v l) : IsR H' v l := by
  obtain ⟨a, e, h⟩ := h
  exact ⟨a, e, k.t h⟩
theorem RowsIn.kp {H H' : Hp} (k : Kp H H') : ∀ {vs : List V} {ls : List (List Nat)}, RowsIn H vs ls → RowsIn H' vs ls
  | _, _, .nil => .nil
  | _, _, .cons a r => .cons (a.kp k) (RowsIn.kp k r)
theorem Same.kp {H H' : Hp} (s : Same H H') : Kp H H' := fun a o _ h => s a o h
theorem same_new {H H1 : Hp} (s : Same H H1) {p : Addr} {o : HO} (n : H1 p = none) : Same H (upd H1 p o) := fun a u h => by
  rw [upd_ne (ne_of_none (s a u h) n)]
  exact s a u h
theorem same_put {H H1 : Hp} (s : Same H H1) {p : Addr} {o : HO} (n : H p = none) : Same H (upd H1 p o) := fun a u h => by
  rw [upd_ne (ne_of_none h n)]
  exact s a u h
theorem paired_at {α β : Type} {R : α → β → Prop} : ∀ {as : List α} {bs : List β} {i : Nat} {a : α}, Paired R as bs → as[i]? = some a → ∃ b, bs[i]? = some b ∧ R a b
  | _, _, _, _, .nil, h => by simp at h
  | _, _, 0, _, .cons x r, h => by
    simp at h
    subst h
    exact ⟨_, rfl, x⟩
  | _, _, i + 1, a, .cons x r, h => by
    obtain ⟨b, h1, h2⟩ := paired_at (i := i) (a := a) r (by simpa using h)
    exact ⟨b, by simpa using h1, h2⟩
/-! ### promises -/
def spIsPair (K : PySem.W.Frag) : Sp := fun vs H Q _ => ∃ (a : Addr) (n x y : Nat), vs = [.ref a, .int n] ∧ (SqL K H a [.int x, .int y] ∨ SqT K H a [.int x, .int y]) ∧ x < n ∧ y < n ∧ Q (.bl true) H
def PairL (K : PySem.W.Frag) (H : Hp) (v : V) (p : Nat × Nat) : Prop := ∃ a, v = .ref a ∧ (SqL K H a [.int p.1, .int p.2] ∨ SqT K H a [.int p.1, .int p.2])
def spPairsOf (K : PySem.W.Frag) : Sp := fun vs H Q _ => ∃ (a : Addr) (n : Nat) (as : List V) (ps : List (Nat × Nat)), vs = [.int n, .ref a] ∧ SqL K H a as ∧ Paired (PairL K H) as ps ∧ (∀ p ∈ ps, p.1 < n ∧ p.2 < n) ∧ ps.length ≤ 400 ∧
  ∀ (H' : Hp) (q : Addr) (bs : List V), Same H H' → FzT H' q bs → PairsIn H' bs ps → Q (.ref q) H'
def spGathered (K : PySem.W.Frag) : Sp := fun vs H Q _ => ∃ (a : Addr) (n : Nat) (ps : List Nat), vs = [.int n, .ref a] ∧ SqL K H a (nums ps) ∧ (∀ p ∈ ps, p < n) ∧ n ≤ 1000 ∧ ps.length ≤ 1000 ∧
  ∀ (H' : Hp) (q : Addr) (bs : List V), Same H H' → H' q = some (.tup bs) → RowsIn H' bs (gat n ps) → Q (.ref q) H'
theorem PairL.same {K : PySem.W.Frag} {H H' : Hp} {v : V} {p : Nat × Nat} (s : Same H H') (h : PairL K H v p) : PairL K H' v p := by
  obtain ⟨a, e, h⟩ := h
  refine ⟨a, e, ?_⟩
  rcases h with h | h
  · exact .inl (s.seq h)
  · rcases h with (h | ⟨o, h⟩) | h
    · exact .inr (.inl (.inl (s _ _ h)))
    · exact .inr (.inl (.inr ⟨o, s _ _ h⟩))
    · exact .inr (.inr h)
section
variable {P : Program} {w : World} {K : PySem.W.Frag} {mg : Str → Option Value} {base : Heap}
theorem scIsPair : FnScope ["thing", "rooms"] ["thing", "rooms"] (defScope sIsPair) := ⟨rfl, rfl, rfl, by decide +kernel, rfl, by decide +kernel, by decide +kernel⟩
theorem ok_is_pair {f : Addr} {fd : FuncData} (F : Fun K "is_pair" "is_pair" sIsPair f fd) (mLen : mg "len" = none) : FnOk P w K mg base CX0 1 f fd ["thing", "rooms"] (spIsPair K) := by
  refine F.ok scIsPair (fun vs H Q E h => ?_) (fun cdv A outer s H vs Q E hr h => ?_)
  · obtain ⟨a, n, x, y, rfl, _⟩ := h
    rfl
  · obtain ⟨a, n, x, y, rfl, hS, hx, hy, k⟩ := h
    refine ⟨_, pss_one (ps_ret (pe_and (pe_cmpR op_eq (pe_callB call_len_seq (by rfl) mLen PySem.boot_len (pa_cons (pv 0) pa_nil)) pe_int (nomark _))
      (pe_and (pe_chain op_le op_lt pe_int (pe_ix ix_seq (pv 0) pe_int (fun _ _ => rfl)) (pv 1))
        (pe_one (pe_chain op_le op_lt pe_int (pe_ix ix_seq (pv 0) pe_int (fun _ _ => rfl)) (pv 1)))))), ?_⟩
    have d1 : decide ((0 : Int) ≤ (x : Int)) = true := decide_eq_true (by omega)
    have d2 : decide ((0 : Int) ≤ (y : Int)) = true := decide_eq_true (by omega)
    have d3 : decide ((x : Int) < (n : Int)) = true := decide_eq_true (by omega)
    have d4 : decide ((y : Int) < (n : Int)) = true := decide_eq_true (by omega)
    have i0 : ∀ {Q' : VK}, Q' (.int (x : Int)) H → rIx K (.ref a) (.int 0) H Q' := fun {Q'} q => by
      rcases hS with h | h
      · exact .inl ⟨a, _, 0, _, rfl, rfl, h, rfl, q⟩
      · exact .inr (.inl ⟨a, _, 0, _, rfl, rfl, h, rfl, q⟩)
    have i1 : ∀ {Q' : VK}, Q' (.int (y : Int)) H → rIx K (.ref a) (.int 1) H Q' := fun {Q'} q => by
      rcases hS with h | h
      · exact .inl ⟨a, _, 1, _, rfl, rfl, h, rfl, q⟩
      · exact .inr (.inl ⟨a, _, 1, _, rfl, rfl, h, rfl, q⟩)
    refine ⟨_, rfl, a, _, rfl, hS, rfl, true, rfl, iteT ?_⟩
    refine ⟨_, rfl, i0 ⟨_, _, rfl, rfl, true, congrArg V.bl d1, iteT ⟨_, rfl, _, _, rfl, rfl, true, congrArg V.bl d3, iteT ?_⟩⟩⟩
    refine ⟨_, rfl, i1 ⟨_, _, rfl, rfl, true, congrArg V.bl d2, iteT ⟨_, rfl, _, _, rfl, rfl, ?_⟩⟩⟩
    dsimp only
    rw [d4]
    exact k
theorem scPairsOf : FnScope ["rooms", "arrows", "pairs", "at", "thing"] ["rooms", "arrows"] (defScope sPairsOf) := ⟨rfl, rfl, rfl, by decide +kernel, rfl, by decide +kernel, by decide +kernel⟩
theorem ok_pairs_of {f fI : Addr} {fd fdI : FuncData} {t4 : Tok} (F : Fun K "pairs_of" "pairs_of" sPairsOf f fd) (GI : FnOk P w K mg base CX0 1 fI fdI ["thing", "rooms"] (spIsPair K)) (bI : Binds K fdI ["thing", "rooms"] []) (mI : mg "is_pair" = some (.ref fI)) (kI : PySem.W.keepIn K (.ref fI) = true)
    (mEnum : mg "enumerate" = none) (mTuple : mg "tuple" = none) (m4 : mg "MOST_ARROWS" = some (.int 400 t4)) : FnOk P w K mg base CX0 2 f fd ["rooms", "arrows"] (spPairsOf K) := by
  refine F.ok scPairsOf (fun vs H Q E h => ?_) (fun cdv A outer s H vs Q E hr h => ?_)
  · obtain ⟨a, n, as, ps, rfl, _⟩ := h
    rfl
  · obtain ⟨a, n, as, ps, rfl, hS, hA, hb, hl, k⟩ := h
    have hlen : as.length = ps.length := Paired.length hA
    refine ⟨_, pss_cons (ps_set (i := 2) scPairsOf.nd rfl (Or.inl rfl) (pe_lst pa_nil))
      (pss_cons (ps_for PassesOwn.never rfl (pi_enum (by rfl) mEnum (pa_cons (pv 1) pa_nil)) (pg_tup rfl (pgs_cons (pg_name (i := 3) scPairsOf.nd rfl (Or.inl rfl)) (pgs_cons (pg_name (i := 4) scPairsOf.nd rfl (Or.inl rfl)) pgs_nil)))
        (pss_cons (ps_if (PW.pt (pw_or (pt_cmpR op_ge (pv 3) (pe_glob (v := .int 400) rfl m4 ⟨_, rfl⟩) (nomark _)) (pw_or1 (pt_not (pt_val (pe_call GI hr rfl mI kI bI .nil pass0 (pa_cons (pv 4) (pa_cons (pv 0) pa_nil)))))))) (pss_never) pss_nil)
          (pss_one (ps_expr (pe_bm PySem.F.plainAttrs_list PySem.F.slot_list_append PySem.F.type_list_append mt_append (pv 2) (pa_cons
            (pe_tup (pa_cons (pe_ix ix_seq (pv 4) pe_int (fun _ _ => rfl)) (pa_cons (pe_ix ix_seq (pv 4) pe_int (fun _ _ => rfl)) pa_nil))) pa_nil))))))
      (pss_one (ps_ret (pe_callTy call_tupleF (by rfl) mTuple (by decide +kernel) (pa_cons (pv 2) pa_nil))))), ?_⟩
    refine ⟨Nat.zero_le _, fun D hD => ?_⟩
    have S1 : Same H (upd H D (.lst [])) := same_new (Same.refl H) hD
    refine ⟨_, rfl, a, as, rfl, S1.seq hS, for_it (walk_enum (K := K) (a := a) (xs := as)) (fun i σ H' => ∃ (v1 v2 : Option V) (bs : List V), σ = [some (.int n), some (.ref a), some (.ref D), v1, v2] ∧ H' D = some (.lst bs) ∧ PairsIn H' bs (ps.take i) ∧ Same H H')
      ⟨none, none, [], rfl, upd_same, .nil, S1⟩ (fun i σ H' _ ⟨_, _, _, _, _, _, s'⟩ => s'.seq hS) ?_ ?_⟩
    · rintro i x σ H' H2 hi ⟨v1, v2, bs, rfl, hB, hP, s'⟩ ⟨T, x1, x2, rfl, hT, rfl, e1, e2⟩
      have e1 : V.int (i : Nat) = x1 := Option.some.inj e1
      subst e1
      obtain ⟨p, hp, ⟨c, rfl, hc⟩⟩ := paired_at hA e2
      have hpm : p ∈ ps := List.mem_of_getElem? hp
      have s2 : Same H (upd H' T (.tup [.int (i : Nat), .ref c])) := same_new s' hT
      have hc2 : SqL K (upd H' T (.tup [.int (i : Nat), .ref c])) c [.int p.1, .int p.2] ∨ SqT K (upd H' T (.tup [.int (i : Nat), .ref c])) c [.int p.1, .int p.2] := by
        obtain ⟨c', e, h⟩ := PairL.same s2 ⟨c, rfl, hc⟩
        cases e
        exact h
      have hB2 : upd H' T (.tup [.int (i : Nat), .ref c]) D = some (.lst bs) := by rw [upd_ne (ne_of_none hB hT)]; exact hB
      refine ⟨T, _, rfl, SqT.of upd_same, rfl, _, _, rfl, _, _, rfl, rfl, ?_⟩
      have d1 : decide ((400 : Int) ≤ ((i : Nat) : Int)) = false := decide_eq_false (by omega)
      refine ⟨_, rfl, _, _, rfl, rfl, false, congrArg V.bl d1, ?_⟩
      refine iteF ?_
      refine ⟨_, rfl, _, rfl, c, n, p.1, p.2, rfl, hc2, (hb p hpm).1, (hb p hpm).2, true, rfl, iteF ?_⟩
      generalize hH3 : upd H' T (.tup [.int (i : Nat), .ref c]) = H3 at s2 hc2 hB2
      have i0 : ∀ {Q' : VK}, Q' (.int (p.1 : Int)) H3 → rIx K (.ref c) (.int 0) H3 Q' := fun {Q'} q => by
        rcases hc2 with h | h
        · exact .inl ⟨c, _, 0, _, rfl, rfl, h, rfl, q⟩
        · exact .inr (.inl ⟨c, _, 0, _, rfl, rfl, h, rfl, q⟩)
      have i1 : ∀ {Q' : VK}, Q' (.int (p.2 : Int)) H3 → rIx K (.ref c) (.int 1) H3 Q' := fun {Q'} q => by
        rcases hc2 with h | h
        · exact .inl ⟨c, _, 1, _, rfl, rfl, h, rfl, q⟩
        · exact .inr (.inl ⟨c, _, 1, _, rfl, rfl, h, rfl, q⟩)
      have hP3 : PairsIn H3 bs (ps.take i) := by
        rw [← hH3]
        exact PairsIn.kp (Kp.new hT) hP
      refine ⟨_, rfl, .inl ⟨rfl, _, SqL.of hB2⟩, _, rfl, i0 ⟨_, rfl, i1 ⟨by show 2 ≤ sizeLine; decide, fun U hU => ?_⟩⟩⟩
      have nDU : D ≠ U := ne_of_none hB2 hU
      have hbl : bs.length ≤ 400 := by
        rw [Paired.length hP3]
        exact Nat.le_trans (List.length_take_le' _ _) hl
      refine ⟨D, bs, _, rfl, rfl, Eq.trans (upd_ne nDU) hB2, by rw [sizeLine_eq]; omega, ?_⟩
      refine ⟨_, _, bs ++ [.ref U], rfl, upd_same, ?_, same_put (same_new s2 hU) hD⟩
      have et : ps.take (i + 1) = ps.take i ++ [p] := by
        rw [List.take_succ, hp]
        rfl
      rw [et]
      refine paired_snoc (PairsIn.kp ((Kp.new hU).trans (Kp.put (Eq.trans (upd_ne nDU) hB2))) hP3) ⟨U, rfl, ?_⟩
      rw [upd_ne nDU.symm, upd_same]
    · rintro σ H' ⟨v1, v2, bs, rfl, hB, hP, s'⟩
      rw [hlen, List.take_length] at hP
      exact ⟨_, rfl, D, bs, rfl, SqL.of hB, fun q o hq hd => k _ q bs (same_new s' hq) ⟨o, upd_same, hd⟩ (PairsIn.kp (Kp.new hq) hP)⟩
end
end KW
set_option Elab.async false
set_option maxRecDepth 100000
/-! The program's webs: gathered. -/
namespace KW
open PySem PySem.Spec PyProof.Rows L2
theorem get_ref {fs : List Addr} {r : Nat} (h : r < fs.length) : (fs.map V.ref)[r]? = some (.ref fs[r]) := by
  rw [List.getElem?_map, List.getElem?_eq_getElem h]
  rfl
theorem nodup_snoc {α : Type} {l : List α} {a : α} (h : l.Nodup) (n : a ∉ l) : (l ++ [a]).Nodup := by
  rw [List.nodup_append]
  refine ⟨h, by simp, fun x hx y hy => ?_⟩
  have e : y = a := by simpa using hy
  subst e
  exact fun z => n (z ▸ hx)
section
variable {P : Program} {w : World} {K : PySem.W.Frag} {mg : Str → Option Value} {base : Heap}
abbrev nGathered : List Str := ["rooms", "places", "room", "found", "arrow", "arrows"]
theorem scGathered : FnScope nGathered ["rooms", "places"] (defScope sGathered) := ⟨rfl, rfl, rfl, by decide +kernel, rfl, by decide +kernel, by decide +kernel⟩
theorem ok_gathered {f : Addr} {fd : FuncData} (F : Fun K "gathered" "gathered" sGathered f fd) (mRange : mg "range" = none) (mEnum : mg "enumerate" = none) (mTuple : mg "tuple" = none) : FnOk P w K mg base CX0 1 f fd ["rooms", "places"] (spGathered K) := by
  refine F.ok scGathered (fun vs H Q E h => ?_) (fun cdv A outer s H vs Q E hr h => ?_)
  · obtain ⟨a, n, ps, rfl, _⟩ := h
    rfl
  · obtain ⟨a, n, ps, rfl, hS, hb, hn, hl, k⟩ := h
    refine ⟨_, pss_cons (ps_setLc (i := 3) (own := [("room", 2)]) (g := gName 2) (tt := tYes) rfl scGathered.nd rfl rfl (sw_true rfl rfl rfl (by decide +kernel)) (pi_range1 (by rfl) mRange (pa_cons (pv 0) pa_nil))
          (blkOk_by (own := [("room", 2)]) (N := nGathered) (sc := defScope sGathered) (by decide +kernel)) (fun _ _ _ _ _ => pg_name (i := 2) scGathered.nd rfl (Or.inl rfl)) (fun _ _ _ _ _ => pts_nil) (fun _ _ _ _ _ => pe_lst pa_nil))
      (pss_cons (ps_for PassesOwn.never rfl (pi_enum (by rfl) mEnum (pa_cons (pv 1) pa_nil)) (pg_tup rfl (pgs_cons (pg_name (i := 4) scGathered.nd rfl (Or.inl rfl)) (pgs_cons (pg_name (i := 2) scGathered.nd rfl (Or.inl rfl)) pgs_nil)))
        (pss_one (ps_expr (pe_bm PySem.F.plainAttrs_list PySem.F.slot_list_append PySem.F.type_list_append mt_append (pe_ix ix_list (pv 3) (pv 2) (fun _ _ => rfl)) (pa_cons (pv 4) pa_nil)))))
      (pss_one (ps_ret (pe_callTy call_tuple_of (by rfl) mTuple (by decide +kernel) (pa_cons (pe_lc (own := [("arrows", 5)]) (g := gName 5) (tt := tYes) rfl scGathered.nd (pi_list (pv 3))
          (blkOk_by (own := [("arrows", 5)]) (N := nGathered) (sc := defScope sGathered) (by decide +kernel)) (fun _ _ _ _ _ => pg_name (i := 5) scGathered.nd rfl (Or.inl rfl)) (fun _ _ _ _ _ => pts_nil)
          (fun _ _ _ _ _ => pe_callTy (call_tupleK (K := K) rfl) (by rfl) mTuple boot_tuple' (pa_cons (pv 5) pa_nil))) pa_nil))))), ?_⟩
    refine ⟨_, rfl, _, rfl, by omega, by omega, fun D hD => ?_⟩
    refine lc_range (lo := 0) (n := n) (fun i H' => ∃ fs : List Addr, H' D = some (.lst (fs.map V.ref)) ∧ fs.length = i ∧ fs.Nodup ∧ (∀ c ∈ fs, H c = none ∧ c ≠ D ∧ H' c = some (.lst [])) ∧ Same H H')
      ⟨[], upd_same, rfl, List.nodup_nil, fun c hc => absurd hc (by simp), same_new (Same.refl H) hD⟩ ?_ ?_
    · rintro i H' hi ⟨fs, hF, hfl, hnd, hf, s'⟩
      refine ⟨rfl, Nat.zero_le _, fun p hp => ?_⟩
      have nDp : D ≠ p := ne_of_none hF hp
      refine ⟨_, Eq.trans (upd_ne nDp) hF, by rw [sizeLine_eq, List.length_map]; omega, fs ++ [p], by rw [upd_same, List.map_append]; rfl, by rw [List.length_append, hfl]; rfl, ?_, ?_, same_put (same_new s' hp) hD⟩
      · refine nodup_snoc hnd fun z => ?_
        rw [(hf p z).2.2] at hp
        cases hp
      · intro c hc
        rcases List.mem_append.mp hc with q | q
        · obtain ⟨h1, h2, h3⟩ := hf c q
          exact ⟨h1, h2, by rw [upd_ne h2, upd_ne (ne_of_none h3 hp)]; exact h3⟩
        · have e : c = p := by simpa using q
          subst e
          exact ⟨s'.free hp, nDp.symm, by rw [upd_ne nDp.symm, upd_same]⟩
    · rintro H1 ⟨fs, hF, hfl, hnd, hf, s1⟩
      have fsN : ∀ r (h : r < fs.length), H fs[r] = none ∧ fs[r] ≠ D := fun r h => ⟨(hf _ (List.getElem_mem h)).1, (hf _ (List.getElem_mem h)).2.1⟩
      have pl : (nums ps).length = ps.length := by simp [nums]
      refine ⟨_, rfl, a, _, rfl, s1.seq hS, for_it (walk_enum (K := K) (a := a) (xs := nums ps)) (fun i σ H' => ∃ (v1 v2 : Option V), σ = [some (.int n), some (.ref a), v1, some (.ref D), v2, none] ∧ H' D = some (.lst (fs.map V.ref)) ∧ (∀ r (h : r < fs.length), H' fs[r] = some (.lst (nums (idxs (ps.take i) r 0)))) ∧ Same H H')
        ⟨none, none, rfl, hF, fun r h => (hf _ (List.getElem_mem h)).2.2, s1⟩ (fun i σ H' _ ⟨_, _, _, _, _, s'⟩ => s'.seq hS) ?_ ?_⟩
      · rintro i x σ H' H2 hi ⟨v1, v2, rfl, hF', hR, s'⟩ ⟨T, x1, x2, rfl, hT, rfl, e1, e2⟩
        have e1 : V.int (i : Nat) = x1 := Option.some.inj e1
        subst e1
        have hi' : i < ps.length := by omega
        have hp : ps[i]? = some ps[i] := List.getElem?_eq_getElem hi'
        have e2 : V.int (ps[i] : Nat) = x2 := by
          have q : (nums ps)[i]? = some x2 := e2
          unfold nums at q
          rw [List.getElem?_map, hp] at q
          exact Option.some.inj q
        subst e2
        generalize hr' : ps[i] = r at hp
        have hrn : r < fs.length := by
          rw [hfl, ← hr']
          exact hb _ (List.getElem_mem hi')
        have nT : ∀ {c : Addr} {o : HO}, H' c = some o → c ≠ T := fun h => ne_of_none h hT
        have hF2 : upd H' T (.tup [.int (i : Nat), .int (r : Nat)]) D = some (.lst (fs.map V.ref)) := by rw [upd_ne (nT hF')]; exact hF'
        have hR2 : ∀ q (h : q < fs.length), upd H' T (.tup [.int (i : Nat), .int (r : Nat)]) fs[q] = some (.lst (nums (idxs (ps.take i) q 0))) := fun q h => by rw [upd_ne (nT (hR q h))]; exact hR q h
        refine ⟨T, _, rfl, SqT.of upd_same, rfl, _, _, rfl, _, _, rfl, rfl, ?_⟩
        refine ⟨_, rfl, _, rfl, D, _, _, _, rfl, rfl, SqL.of hF2, atI_nat (get_ref hrn), .inl ⟨rfl, _, SqL.of (hR2 r hrn)⟩, _, rfl, fs[r], _, _, rfl, rfl, hR2 r hrn, ?_, ?_⟩
        · have := idxs_len r (ps.take i) 0
          have := List.length_take_le' i ps
          rw [sizeLine_eq]
          simp only [nums, List.length_map]
          omega
        · refine ⟨_, _, rfl, by rw [upd_ne (fsN r hrn).2.symm]; exact hF2, fun q h => ?_, same_put (same_new s' hT) (fsN r hrn).1⟩
          have et : ps.take (i + 1) = ps.take i ++ [r] := by
            rw [List.take_succ, hp]
            rfl
          have tl : (ps.take i).length = i := by rw [List.length_take]; omega
          rw [et, idxs_snoc, tl, Nat.zero_add]
          by_cases e : q = r
          · subst e
            rw [upd_same, if_pos rfl, nums_snoc]
          · have ne : fs[q] ≠ fs[r] := fun z => e ((List.getElem_inj hnd).mp z)
            rw [upd_ne ne, if_neg (fun z => e z.symm), List.append_nil]
            exact hR2 q h
      · rintro σ H' ⟨v1, v2, rfl, hF', hR, s'⟩
        rw [pl, List.take_length] at hR
        refine ⟨_, rfl, D, rfl, ⟨_, SqL.of hF'⟩, fun D2 hD2 => ?_⟩
        have nD2 : D ≠ D2 := ne_of_none hF' hD2
        refine lc_list (K := K) (a := D) (xs := fs.map V.ref) (fun i H2 => ∃ vs : List V, H2 D2 = some (.lst vs) ∧ RowsIn H2 vs ((gat n ps).take i) ∧ (∀ c o, H' c = some o → H2 c = some o))
          ⟨[], upd_same, .nil, fun c o h => by rw [upd_ne (ne_of_none h hD2)]; exact h⟩ (fun i H2 _ ⟨_, _, _, g⟩ => SqL.of (g D _ hF')) ?_ ?_
        · rintro i x H2 hx ⟨vs, hV, hRw, g⟩
          obtain ⟨hi, rfl⟩ : ∃ h : i < fs.length, x = .ref fs[i] := by
            have hlt := (List.getElem?_eq_some_iff.mp hx).1
            rw [List.length_map] at hlt
            rw [get_ref hlt] at hx
            exact ⟨hlt, (Option.some.inj hx).symm⟩
          refine ⟨rfl, _, rfl, fs[i], _, rfl, .inl ⟨SqL.of (g _ _ (hR i hi)), fun U hU => ?_⟩⟩
          have nU : D2 ≠ U := ne_of_none hV hU
          have vl : vs.length ≤ 1000 := by
            rw [Paired.length hRw]
            have := List.length_take_le' i (gat n ps)
            rw [gat_len] at this
            omega
          refine ⟨vs, Eq.trans (upd_ne nU) hV, by rw [sizeLine_eq]; omega, vs ++ [.ref U], upd_same, ?_, fun c o h => ?_⟩
          · have hgi : (gat n ps)[i]? = some (idxs ps i 0) := by
              unfold gat
              rw [List.getElem?_map, List.getElem?_range (by omega)]
              rfl
            have et : (gat n ps).take (i + 1) = (gat n ps).take i ++ [idxs ps i 0] := by
              rw [List.take_succ, hgi]
              rfl
            rw [et]
            refine paired_snoc (RowsIn.kp ((Kp.new hU).trans (Kp.put (Eq.trans (upd_ne nU) hV))) hRw) ⟨U, rfl, ?_⟩
            rw [upd_ne nU.symm, upd_same]
          · have h2 := g c o h
            rw [upd_ne (ne_of_none h hD2), upd_ne (ne_of_none h2 hU)]
            exact h2
        · rintro H2 ⟨vs, hV, hRw, g⟩
          rw [List.length_map, hfl] at hRw
          have et : (gat n ps).take n = gat n ps := List.take_of_length_le (by rw [gat_len]; exact Nat.le_refl _)
          rw [et] at hRw
          exact ⟨D2, vs, rfl, .inl ⟨SqL.of hV, fun q hq => k _ q vs (same_new (fun c o h => g c o (s' c o h)) hq) upd_same (RowsIn.kp (Kp.new hq) hRw)⟩⟩
end
end KW
set_option Elab.async false
set_option maxRecDepth 100000
/-! The program's webs: a Web is made. -/
namespace KW
open PySem PySem.Spec PyProof.Rows L2
abbrev sWebClass : Stmt := topS 17
abbrev sInit : Stmt := inClass sWebClass 0
abbrev sMade : Stmt := topS 24
structure WebC (K : PySem.W.Frag) (C : Addr) : Prop where
  cl : Cls K C
  nT : NoAttr K C "room_total"
  nP : NoAttr K C "pairs"
  nL : NoAttr K C "leaving"
  nE : NoAttr K C "entering"
def wf (n : Nat) (q lv en : Addr) : List (Str × V) := putF "entering" (.ref en) (putF "leaving" (.ref lv) (putF "pairs" (.ref q) (putF "room_total" (.int n) [])))
theorem wf_entering (n : Nat) (q lv en : Addr) : (wf n q lv en).lookup ("entering" : Str) = some (.ref en) := by
  unfold wf
  rw [lookup_putF, if_pos rfl]
theorem wf_leaving (n : Nat) (q lv en : Addr) : (wf n q lv en).lookup ("leaving" : Str) = some (.ref lv) := by
  unfold wf
  rw [lookup_putF, if_neg (by decide +kernel), lookup_putF, if_pos rfl]
theorem wf_pairs (n : Nat) (q lv en : Addr) : (wf n q lv en).lookup ("pairs" : Str) = some (.ref q) := by
  unfold wf
  rw [lookup_putF, if_neg (by decide +kernel), lookup_putF, if_neg (by decide +kernel), lookup_putF, if_pos rfl]
theorem wf_total (n : Nat) (q lv en : Addr) : (wf n q lv en).lookup ("room_total" : Str) = some (.int n) := by
  unfold wf
  rw [lookup_putF, if_neg (by decide +kernel), lookup_putF, if_neg (by decide +kernel), lookup_putF, if_neg (by decide +kernel), lookup_putF, if_pos rfl]
theorem wf_no (n : Nat) (q lv en : Addr) {m : Str} (h1 : ¬ m = "entering") (h2 : ¬ m = "leaving") (h3 : ¬ m = "pairs") (h4 : ¬ m = "room_total") : (wf n q lv en).lookup m = none := by
  unfold wf
  rw [lookup_putF, if_neg h1, lookup_putF, if_neg h2, lookup_putF, if_neg h3, lookup_putF, if_neg h4]
  rfl
/-- a web at x: n rooms, arrows ps -/
def WebAt (C : Addr) (H : Hp) (x : Addr) (n : Nat) (ps : List (Nat × Nat)) : Prop := ∃ (dx q lv en : Addr) (as ls es : List V), H x = some (.ins C dx (wf n q lv en)) ∧ FzT H q as ∧ PairsIn H as ps ∧
  H lv = some (.tup ls) ∧ RowsIn H ls (gat n (ps.map (·.1))) ∧ H en = some (.tup es) ∧ RowsIn H es (gat n (ps.map (·.2)))
theorem WebAt.to {C : Addr} {H H' : Hp} {x : Addr} {n : Nat} {ps : List (Nat × Nat)} (k : Kp H H') (hx : H' x = H x) (h : WebAt C H x n ps) : WebAt C H' x n ps := by
  obtain ⟨dx, q, lv, en, as, ls, es, h1, h2, h3, h4, h5, h6, h7⟩ := h
  exact ⟨dx, q, lv, en, as, ls, es, hx.trans h1, k.f h2, PairsIn.kp k h3, k.t h4, RowsIn.kp k h5, k.t h6, RowsIn.kp k h7⟩
theorem putF_lt {f : Str} {v : V} {fs : List (Str × V)} {k : Nat} (h : fs.length < k) : (putF f v fs).length < k + 1 := Nat.lt_of_le_of_lt (length_putF f v fs) (by omega)
def spInit (K : PySem.W.Frag) (C : Addr) : Sp := fun vs H Q _ => ∃ (x dx a : Addr) (n : Nat) (as : List V) (ps : List (Nat × Nat)), vs = [.ref x, .int n, .ref a] ∧ H x = some (.ins C dx []) ∧ SqL K H a as ∧ Paired (PairL K H) as ps ∧ Good n ps ∧ n ≤ 100 ∧ ps.length ≤ 400 ∧
  ∀ H' : Hp, WebAt C H' x n ps → (∀ b o, b ≠ x → H b = some o → H' b = some o) → Q .non H'
def spMade (C : Addr) : Sp := fun vs H Q _ => ∃ (t : Addr) (n : Nat) (ps : List (Nat × Nat)), vs = [.ref t] ∧ WebT H t n ps ∧ n ≤ 100 ∧ ps.length ≤ 400 ∧
  ∀ (H' : Hp) (x : Addr), WebAt C H' x n ps → Same H H' → H x = none → Q (.ref x) H'
theorem PairsIn.loose {K : PySem.W.Frag} {H : Hp} : ∀ {as : List V} {ps : List (Nat × Nat)}, PairsIn H as ps → Paired (PairL K H) as ps
  | _, _, .nil => .nil
  | _, _, .cons ⟨a, e, h⟩ r => .cons ⟨a, e, .inr (SqT.of h)⟩ (PairsIn.loose r)
theorem pairs_get {H : Hp} {as : List V} {ps : List (Nat × Nat)} {i : Nat} {x : V} (h : PairsIn H as ps) (e : as[i]? = some x) : ∃ (p : Nat × Nat) (a : Addr), ps[i]? = some p ∧ x = .ref a ∧ H a = some (.tup [.int p.1, .int p.2]) := by
  obtain ⟨p, h1, a, h2, h3⟩ := paired_at h e
  exact ⟨p, a, h1, h2, h3⟩
theorem take_snoc {α : Type} {l : List α} {i : Nat} {a : α} (h : l[i]? = some a) : l.take (i + 1) = l.take i ++ [a] := by
  rw [List.take_succ, h]
  rfl
section
variable {P : Program} {w : World} {K : PySem.W.Frag} {mg : Str → Option Value} {base : Heap}
abbrev nInit : List Str := ["self", "rooms", "arrows", "pairs", "leaving", "pair"]
theorem scInit : FnScope nInit ["self", "rooms", "arrows"] (defScope sInit) := ⟨rfl, rfl, rfl, by decide +kernel, rfl, by decide +kernel, by decide +kernel⟩
theorem ok_init {f fP fG C : Addr} {fd fdP fdG : FuncData} {t1 : Tok} (F : Fun K "__init__" "Web.__init__" sInit f fd) (T : WebC K C)
    (GP : FnOk P w K mg base CX0 2 fP fdP ["rooms", "arrows"] (spPairsOf K)) (bP : Binds K fdP ["rooms", "arrows"] []) (mP : mg "pairs_of" = some (.ref fP)) (kP : PySem.W.keepIn K (.ref fP) = true)
    (GG : FnOk P w K mg base CX0 1 fG fdG ["rooms", "places"] (spGathered K)) (bG : Binds K fdG ["rooms", "places"] []) (mG : mg "gathered" = some (.ref fG)) (kG : PySem.W.keepIn K (.ref fG) = true)
    (m1 : mg "MOST_ROOMS" = some (.int 100 t1)) : FnOk P w K mg base CX0 3 f fd ["self", "rooms", "arrows"] (spInit K C) := by
  refine F.ok scInit (fun vs H Q E h => ?_) (fun cdv A outer s H vs Q E hr h => ?_)
  · obtain ⟨x, dx, a, n, as, ps, rfl, _⟩ := h
    rfl
  · obtain ⟨x, dx, a, n, as, ps, rfl, hx, hS, hA, hG, hn, hl, k⟩ := h
    have hr1 : Room 1 _ := hr.mono (by decide)
    have hlen : as.length = ps.length := Paired.length hA
    refine ⟨_, pss_cons (ps_if (pt_not (pt_chain op_le op_le pe_int (pv 1) (pe_glob (v := .int 100) rfl m1 ⟨_, rfl⟩))) pss_never pss_nil)
      (pss_cons (ps_set (i := 3) scInit.nd rfl (Or.inl rfl) (pe_call GP hr rfl mP kP bP .nil pass0 (pa_cons (pv 1) (pa_cons (pv 2) pa_nil))))
      (pss_cons (ps_set (i := 4) scInit.nd rfl (Or.inl rfl) (pe_call GG hr1 rfl mG kG bG .nil pass0 (pa_cons (pv 1) (pa_cons
          (pe_lc (own := [("pair", 5)]) (g := gName 5) (tt := tYes) rfl scInit.nd (pi_tup (pv 3)) (blkOk_by (own := [("pair", 5)]) (N := nInit) (sc := defScope sInit) (by decide +kernel)) (fun _ _ _ _ _ => pg_name (i := 5) scInit.nd rfl (Or.inl rfl)) (fun _ _ _ _ _ => pts_nil)
            (fun _ _ _ _ _ => pe_ix (ix_tupK (K := K) rfl) (pv 5) pe_int (fun _ _ => rfl))) pa_nil))))
      (pss_cons (ps_if (pt_cmpR (op_inTD (hu65 hr)) (pe_tup pa_nil) (pv 4) (by rfl)) pss_never pss_nil)
      (pss_cons (ps_fld (pv 0) (pv 1) rfl) (pss_cons (ps_fld (pv 0) (pv 3) rfl) (pss_cons (ps_fld (pv 0) (pv 4) rfl)
      (pss_one (ps_fld (pv 0) (pe_call GG hr1 rfl mG kG bG .nil pass0 (pa_cons (pv 1) (pa_cons
          (pe_lc (own := [("pair", 5)]) (g := gName 5) (tt := tYes) rfl scInit.nd (pi_tup (pv 3)) (blkOk_by (own := [("pair", 5)]) (N := nInit) (sc := defScope sInit) (by decide +kernel)) (fun _ _ _ _ _ => pg_name (i := 5) scInit.nd rfl (Or.inl rfl)) (fun _ _ _ _ _ => pts_nil)
            (fun _ _ _ _ _ => pe_ix (ix_tupK (K := K) rfl) (pv 5) pe_int (fun _ _ => rfl))) pa_nil))) rfl)))))))), ?_⟩
    have d1 : decide ((1 : Int) ≤ (n : Int)) = true := decide_eq_true (by have := hG.1; omega)
    have d2 : decide ((n : Int) ≤ (100 : Int)) = true := decide_eq_true (by omega)
    refine ⟨_, rfl, _, _, rfl, rfl, true, congrArg V.bl d1, iteT ⟨_, _, rfl, rfl, true, congrArg V.bl d2, iteF ?_⟩⟩
    -- pairs
    refine ⟨_, rfl, _, rfl, a, n, as, ps, rfl, hS, hA, hG.2.1, hl, fun H1 q bs s1 hq hP1 => ?_⟩
    have hx1 : H1 x = some (.ins C dx []) := s1 _ _ hx
    have hbl : bs.length = ps.length := Paired.length hP1
    -- leaving
    refine ⟨_, rfl, _, rfl, q, rfl, ⟨_, hq.sq⟩, fun D hD => ?_⟩
    refine lc_tup (K := K) (a := q) (xs := bs) (fun i H' => H' D = some (.lst (nums ((ps.take i).map (·.1)))) ∧ Same H1 H')
      ⟨upd_same, same_new (Same.refl H1) hD⟩ (fun i H' _ ⟨_, s'⟩ => ((Same.kp s').f hq).sq) ?_ ?_
    · rintro i y H' hy ⟨hD', s'⟩
      obtain ⟨p, c, hp, rfl, hc⟩ := pairs_get hP1 hy
      refine ⟨rfl, _, rfl, c, _, _, _, rfl, rfl, SqT.of (s' _ _ hc), rfl, _, hD', ?_, ?_, same_put s' hD⟩
      · rw [sizeLine_eq]
        simp only [nums, List.length_map]
        have := List.length_take_le' i ps
        omega
      · rw [upd_same, take_snoc hp, List.map_append]
        exact congrArg (fun l => some (HO.lst l)) (nums_snoc _ _).symm
    · rintro H2 ⟨hD2, s2⟩
      rw [hbl, List.take_length] at hD2
      have hx2 : H2 x = some (.ins C dx []) := s2 _ _ hx1
      refine ⟨D, n, ps.map (·.1), rfl, SqL.of hD2, fun r hr' => ?_, by omega, by rw [List.length_map]; omega, fun H3 lv ls s3 hlv hR3 => ?_⟩
      · obtain ⟨p, hp, e⟩ := List.mem_map.mp hr'
        rw [← e]
        exact (hG.2.1 p hp).1
      -- () in leaving
      refine ⟨Nat.zero_le _, fun U hU => ?_⟩
      have s4 : Same H3 (upd H3 U (.tup [])) := same_new (Same.refl H3) hU
      have full : (gat n (ps.map (·.1))).any (·.isEmpty) = false := gat_full fun r hr' => by
        obtain ⟨p, hp, e⟩ := hG.2.2 r hr'
        exact List.mem_map.mpr ⟨p, hp, e⟩
      refine ⟨_, rfl, .tuple [], (gat n (ps.map (·.1))).map rowD, .tup (SqT.of upd_same) .nil, .tup (SqT.of (s4 _ _ hlv)) (dp_rows (RowsIn.kp (Same.kp s4) hR3)), nil_shaped, rows_shaped _, false, ?_, iteF ?_⟩
      · rw [nil_in, full]
      have t4 : Kp H1 (upd H3 U (.tup [])) := (Same.kp s2).trans ((Same.kp s3).trans (Same.kp s4))
      have hx4 : upd H3 U (.tup []) x = some (.ins C dx []) := s4 _ _ (s3 _ _ hx2)
      have hq4 : FzT (upd H3 U (.tup [])) q bs := t4.f hq
      have hP4 : PairsIn (upd H3 U (.tup [])) bs ps := PairsIn.kp t4 hP1
      have hlv4 : upd H3 U (.tup []) lv = some (.tup ls) := s4 _ _ hlv
      have hR4 : RowsIn (upd H3 U (.tup [])) ls (gat n (ps.map (·.1))) := RowsIn.kp (Same.kp s4) hR3
      have g4 : Same H (upd H3 U (.tup [])) := s1.trans (s2.trans (s3.trans s4))
      generalize upd H3 U (.tup []) = H4 at s4 t4 hx4 hq4 hP4 hlv4 hR4 g4
      -- the three fields
      have kx : ∀ {fs fs' : List (Str × V)} {Hh : Hp}, Hh x = some (.ins C dx fs) → Kp Hh (upd Hh x (.ins C dx fs')) := fun {fs fs' Hh} h c o f e => by
        rw [upd_ne (ne_of e h (by intro z; subst z; exact f))]
        exact e
      refine ⟨_, rfl, _, rfl, x, C, dx, [], rfl, hx4, T.cl, T.nT, (by show 0 < 1000; decide), ?_⟩
      refine ⟨_, rfl, _, rfl, x, C, dx, _, rfl, upd_same, T.cl, T.nP, Nat.lt_of_lt_of_le (putF_lt (k := 1) (by simp)) (by decide), ?_⟩
      refine ⟨_, rfl, _, rfl, x, C, dx, _, rfl, upd_same, T.cl, T.nL, Nat.lt_of_lt_of_le (putF_lt (putF_lt (k := 1) (by simp))) (by decide), ?_⟩
      rw [upd_upd, upd_upd]
      have k5 := kx (fs' := putF "leaving" (.ref lv) (putF "pairs" (.ref q) (putF "room_total" (.int n) []))) hx4
      have hx5 : upd H4 x (.ins C dx (putF "leaving" (.ref lv) (putF "pairs" (.ref q) (putF "room_total" (.int n) [])))) x = some (.ins C dx (putF "leaving" (.ref lv) (putF "pairs" (.ref q) (putF "room_total" (.int n) [])))) := upd_same
      have g5 : ∀ b o, b ≠ x → H b = some o → upd H4 x (.ins C dx (putF "leaving" (.ref lv) (putF "pairs" (.ref q) (putF "room_total" (.int n) [])))) b = some o := fun b o nb h => by
        rw [upd_ne nb]
        exact g4 b o h
      have hq5 := k5.f hq4
      have hP5 := PairsIn.kp k5 hP4
      have hlv5 := k5.t hlv4
      have hR5 := RowsIn.kp k5 hR4
      generalize upd H4 x (.ins C dx (putF "leaving" (.ref lv) (putF "pairs" (.ref q) (putF "room_total" (.int n) [])))) = H5 at k5 hx5 g5 hq5 hP5 hlv5 hR5
      -- entering
      refine ⟨_, rfl, _, rfl, q, rfl, ⟨_, hq5.sq⟩, fun D2 hD2' => ?_⟩
      refine lc_tup (K := K) (a := q) (xs := bs) (fun i H' => H' D2 = some (.lst (nums ((ps.take i).map (·.2)))) ∧ Same H5 H')
        ⟨upd_same, same_new (Same.refl H5) hD2'⟩ (fun i H' _ ⟨_, s'⟩ => ((Same.kp s').f hq5).sq) ?_ ?_
      · rintro i y H' hy ⟨hD', s'⟩
        obtain ⟨p, c, hp, rfl, hc⟩ := pairs_get hP5 hy
        refine ⟨rfl, _, rfl, c, _, _, _, rfl, rfl, SqT.of (s' _ _ hc), rfl, _, hD', ?_, ?_, same_put s' hD2'⟩
        · rw [sizeLine_eq]
          simp only [nums, List.length_map]
          have := List.length_take_le' i ps
          omega
        · rw [upd_same, take_snoc hp, List.map_append]
          exact congrArg (fun l => some (HO.lst l)) (nums_snoc _ _).symm
      · rintro H6 ⟨hD6, s6⟩
        rw [hbl, List.take_length] at hD6
        refine ⟨D2, n, ps.map (·.2), rfl, SqL.of hD6, fun r hr' => ?_, by omega, by rw [List.length_map]; omega, fun H7 en es s7 hen hR7 => ?_⟩
        · obtain ⟨p, hp, e⟩ := List.mem_map.mp hr'
          rw [← e]
          exact (hG.2.1 p hp).2
        have s57 : Same H5 H7 := s6.trans s7
        have hx7 := s57 _ _ hx5
        have kk := (Same.kp s57).trans (kx (fs' := wf n q lv en) hx7)
        refine ⟨_, rfl, x, C, dx, _, rfl, hx7, T.cl, T.nE, Nat.lt_of_lt_of_le (putF_lt (putF_lt (putF_lt (k := 1) (by simp)))) (by decide), ?_⟩
        refine k _ ⟨dx, q, lv, en, bs, ls, es, upd_same, kk.f hq5, PairsIn.kp kk hP5, kk.t hlv5, RowsIn.kp kk hR5, (kx hx7).t hen, RowsIn.kp (kx hx7) hR7⟩ fun b o nb h => ?_
        rw [upd_ne nb]
        exact s57 _ _ (g5 b o nb h)
theorem scMade : FnScope ["_law_w"] ["_law_w"] (defScope sMade) := ⟨rfl, rfl, rfl, by decide +kernel, rfl, by decide +kernel, by decide +kernel⟩
theorem ok_made {f fI C : Addr} {fd fdI : FuncData} (F : Fun K "_law_made" "_law_made" sMade f fd) (M : Mk K C fI) (GI : FnOk P w K mg base CX0 3 fI fdI ["self", "rooms", "arrows"] (spInit K C)) (bI : Binds K fdI ["self", "rooms", "arrows"] []) (mC : mg "Web" = some (.ref C))
    (mList : mg "list" = none) : FnOk P w K mg base CX0 5 f fd ["_law_w"] (spMade C) := by
  refine F.ok scMade (fun vs H Q E h => ?_) (fun cdv A outer s H vs Q E hr h => ?_)
  · obtain ⟨t, n, ps, rfl, _⟩ := h
    rfl
  · obtain ⟨t, n, ps, rfl, ⟨q, as, h1, h2, h3, h4⟩, hn, hl, k⟩ := h
    refine ⟨_, pss_one (ps_ret (pe_make M GI hr rfl mC bI .nil pass0 (pa_cons (pe_ix ix_tup (pv 0) pe_int (fun _ _ => rfl)) (pa_cons (pe_callTy call_list_of (by rfl) mList (by decide +kernel) (pa_cons (pe_ix ix_tup (pv 0) pe_int (fun _ _ => rfl)) pa_nil)) pa_nil)))), ?_⟩
    refine ⟨_, rfl, t, _, _, _, rfl, rfl, SqT.of h1, rfl, _, rfl, t, _, _, _, rfl, rfl, SqT.of h1, rfl, q, _, rfl, .inr h2.sq, fun l hl' => ?_⟩
    intro x dx nx ndx nex
    have s1 : Same H (upd H l (.lst as)) := same_new (Same.refl H) hl'
    have s2 : Same (upd H l (.lst as)) (upd (upd (upd H l (.lst as)) dx (.own x)) x (.ins C dx [])) := fun b o e => by
      rw [upd_ne (ne_of_none e nx), upd_ne (ne_of_none e ndx)]
      exact e
    have s3 := s1.trans s2
    refine ⟨x, dx, l, n, as, ps, rfl, upd_same, SqL.of (s2 _ _ upd_same), PairsIn.loose (PairsIn.kp (Same.kp s3) h3), h4, hn, hl, fun H' hW g => ⟨rfl, k H' x hW (fun b o e => ?_) (s1.free nx)⟩⟩
    have nbx : b ≠ x := ne_of_none (s1 _ _ e) nx
    exact g b o nbx (s3 _ _ e)
end
end KW
set_option Elab.async false
set_option maxRecDepth 100000
/-! The program's webs: what is asked of one. -/
namespace KW
open PySem PySem.Spec PyProof.Rows L2
abbrev sEq : Stmt := inClass sWebClass 1
abbrev sLen : Stmt := inClass sWebClass 2
abbrev sRepr : Stmt := inClass sWebClass 3
abbrev sRooms : Stmt := inClass sWebClass 4
abbrev sArrows : Stmt := inClass sWebClass 5
abbrev sBegin : Stmt := inClass sWebClass 6
abbrev sEnd : Stmt := inClass sWebClass 7
abbrev sOuts : Stmt := inClass sWebClass 8
abbrev sIns : Stmt := inClass sWebClass 9
abbrev sLeading : Stmt := inClass sWebClass 10
abbrev sHas : Stmt := inClass sWebClass 15
abbrev sNeedA : Stmt := inClass sWebClass 19
abbrev sNeedR : Stmt := inClass sWebClass 20
/-! ### data -/
def pD (p : Nat × Nat) : PyData := .tuple [.int p.1, .int p.2]
theorem pD_lay : ∀ ps : List (Nat × Nat), PyData.canLayAll0 (ps.map pD) = true
  | [] => by simp [PyData.canLayAll0]
  | p :: ps => by simp [PyData.canLayAll0, pD, PyData.canLay0, pD_lay ps]
theorem pD_plain : ∀ ps : List (Nat × Nat), PyData.plainAll (ps.map pD) = true
  | [] => by simp [PyData.plainAll]
  | p :: ps => by simp [PyData.plainAll, pD, PyData.plain, pD_plain ps]
theorem pD_depth : ∀ ps : List (Nat × Nat), PyData.depthAll (ps.map pD) ≤ 1
  | [] => by simp [PyData.depthAll]
  | p :: ps => by
    have h := pD_depth ps
    simp only [List.map_cons, PyData.depthAll, pD, PyData.depth]
    omega
theorem pDs_shaped (ps : List (Nat × Nat)) : SeqAt.shaped (.tuple (ps.map pD)) = true := by
  have h := pD_depth ps
  exact shaped_of (by simp only [PyData.canLay0]; exact pD_lay ps) (by simp only [PyData.depth]; omega)
theorem pD_eqv (p : Nat × Nat) (a b : Int) : PyData.eqv (pD p) (.tuple [.int a, .int b]) = (decide ((p.1 : Int) = a) && decide ((p.2 : Int) = b)) := by
  simp only [pD, PyData.eqv, PyData.eqvAll, Bool.and_true]
  rfl
theorem pDs_eqv : ∀ ps qs : List (Nat × Nat), PyData.eqvAll (ps.map pD) (qs.map pD) = decide (ps = qs)
  | [], [] => by simp [PyData.eqvAll]
  | [], q :: qs => by simp [PyData.eqvAll]
  | p :: ps, [] => by simp [PyData.eqvAll]
  | p :: ps, q :: qs => by
    have ih := pDs_eqv ps qs
    obtain ⟨a, b⟩ := p
    obtain ⟨c, d⟩ := q
    simp only [List.map_cons, PyData.eqvAll, ih]
    have e : PyData.eqv (pD (a, b)) (pD (c, d)) = (decide ((a : Int) = (c : Int)) && decide ((b : Int) = (d : Int))) := pD_eqv (a, b) c d
    rw [e]
    by_cases h1 : a = c
    · by_cases h2 : b = d
      · subst h1 h2
        simp
      · have h2' : ¬ ((b : Int) = (d : Int)) := by omega
        simp [h1, h2, h2']
    · have h1' : ¬ ((a : Int) = (c : Int)) := by omega
      simp [h1, h1']
theorem dp_pairs {K : PySem.W.Frag} {H : Hp} : ∀ {as : List V} {ps : List (Nat × Nat)}, PairsIn H as ps → DpAll K H as (ps.map pD)
  | _, _, .nil => .nil
  | _, _, .cons ⟨a, e, h⟩ r => by
    rw [e]
    exact .cons (.tup (SqT.of h) (.cons (.int _) (.cons (.int _) .nil))) (dp_pairs r)
def cnt (ps : List (Nat × Nat)) (a b : Nat) : Nat := (ps.map pD).countP fun z => PyData.eqv z (.tuple [.int a, .int b])
def numT (i : Nat) : Str := toString (i : Int)
theorem numT_len (i : Nat) (h : i ≤ 500) : (numT i).length ≤ 5 := by
  have all : ∀ j : Fin 501, (numT j.1).length ≤ 5 := by decide +kernel
  exact all ⟨i, by omega⟩
theorem small_log (i : Nat) (h : i ≤ 500) : ((i : Nat) : Int).natAbs.log2 < 1920 := by
  have e : ((i : Nat) : Int).natAbs = i := by omega
  rw [e]
  exact Nat.lt_of_le_of_lt (Nat.log2_le_self i) (by omega)
theorem str_len_append (a b : Str) : (a ++ b).length = a.length + b.length := by
  show (a.cps ++ b.cps).size = a.cps.size + b.cps.size
  rw [Array.size_append]
def webTxt (n m : Nat) : Str := Str.empty ++ "Web(" ++ numT n ++ " rooms, " ++ numT m ++ " arrows)"
/-! ### promises -/
structure WebQ (K : PySem.W.Frag) (C : Addr) : Prop where
  ha : PySem.W.findIn K (.ref C) "__class__" = some (some (.builtin "object.__class__"))
  hn : PySem.W.specialIn K (.builtin "object.__class__") "__get__" = some (some (.builtin "getset_descriptor.__get__"))
  ht : PySem.W.takesIn K (.builtin "object.__class__") = some true
  hm : PySem.W.mroIn K C (.type "object") = some true
  kO : PySem.W.kitOne K (.ref C) (.ref C) = some true
  kT : PySem.W.kitOne K (.type "tuple") (.ref C) = some false
def spHas (C : Addr) : Sp := fun vs H Q _ => ∃ (x : Addr) (n : Nat) (ps : List (Nat × Nat)) (i : Int), vs = [.ref x, .int i] ∧ WebAt C H x n ps ∧ Q (.bl (decide (0 ≤ i ∧ i < ps.length))) H
def spNeedA (C : Addr) : Sp := fun vs H Q _ => ∃ (x : Addr) (n : Nat) (ps : List (Nat × Nat)) (i : Nat), vs = [.ref x, .int i] ∧ WebAt C H x n ps ∧ i < ps.length ∧ Q .non H
def spNeedR (C : Addr) : Sp := fun vs H Q _ => ∃ (x : Addr) (n : Nat) (ps : List (Nat × Nat)) (i : Nat), vs = [.ref x, .int i] ∧ WebAt C H x n ps ∧ i < n ∧ Q .non H
def spRooms (C : Addr) : Sp := fun vs H Q _ => ∃ (x : Addr) (n : Nat) (ps : List (Nat × Nat)), vs = [.ref x] ∧ WebAt C H x n ps ∧ Q (.int n) H
def spLen (C : Addr) : Sp := fun vs H Q _ => ∃ (x : Addr) (n : Nat) (ps : List (Nat × Nat)), vs = [.ref x] ∧ WebAt C H x n ps ∧ Q (.int ps.length) H
def spArrows (C : Addr) : Sp := fun vs H Q _ => ∃ (x : Addr) (n : Nat) (ps : List (Nat × Nat)), vs = [.ref x] ∧ WebAt C H x n ps ∧ ∀ (H' : Hp) (l : Addr) (as : List V), Same H H' → H l = none → H' l = some (.lst as) → PairsIn H' as ps → Q (.ref l) H'
def spBegin (C : Addr) : Sp := fun vs H Q _ => ∃ (x : Addr) (n : Nat) (ps : List (Nat × Nat)) (i : Nat) (p : Nat × Nat), vs = [.ref x, .int i] ∧ WebAt C H x n ps ∧ ps[i]? = some p ∧ Q (.int p.1) H
def spEnd (C : Addr) : Sp := fun vs H Q _ => ∃ (x : Addr) (n : Nat) (ps : List (Nat × Nat)) (i : Nat) (p : Nat × Nat), vs = [.ref x, .int i] ∧ WebAt C H x n ps ∧ ps[i]? = some p ∧ Q (.int p.2) H
def spOuts (C : Addr) : Sp := fun vs H Q _ => ∃ (x : Addr) (n : Nat) (ps : List (Nat × Nat)) (r : Nat), vs = [.ref x, .int r] ∧ WebAt C H x n ps ∧ r < n ∧ ∀ (H' : Hp) (l : Addr), Same H H' → H l = none → H' l = some (.lst (nums (idxs (ps.map (·.1)) r 0))) → Q (.ref l) H'
def spIns (C : Addr) : Sp := fun vs H Q _ => ∃ (x : Addr) (n : Nat) (ps : List (Nat × Nat)) (r : Nat), vs = [.ref x, .int r] ∧ WebAt C H x n ps ∧ r < n ∧ ∀ (H' : Hp) (l : Addr), Same H H' → H l = none → H' l = some (.lst (nums (idxs (ps.map (·.2)) r 0))) → Q (.ref l) H'
def spLeading (C : Addr) : Sp := fun vs H Q _ => ∃ (x : Addr) (n : Nat) (ps : List (Nat × Nat)) (r s : Nat), vs = [.ref x, .int r, .int s] ∧ WebAt C H x n ps ∧ r < n ∧ s < n ∧ ∀ H' : Hp, Same H H' → Q (.int (cnt ps r s)) H'
def spRepr (C : Addr) : Sp := fun vs H Q _ => ∃ (x : Addr) (n : Nat) (ps : List (Nat × Nat)), vs = [.ref x] ∧ WebAt C H x n ps ∧ n ≤ 500 ∧ ps.length ≤ 500 ∧ Q (.str (webTxt n ps.length)) H
def spEq (C : Addr) : Sp := fun vs H Q _ => ∃ (x y : Addr) (n : Nat) (ps : List (Nat × Nat)), vs = [.ref x, .ref y] ∧ WebAt C H x n ps ∧ ((∃ (m : Nat) (qs : List (Nat × Nat)), WebAt C H y m qs ∧ Q (.bl (decide (n = m ∧ ps = qs))) H) ∨ (∃ ys, FzT H y ys ∧ Q (.bl false) H))
theorem row_at {H : Hp} {vs : List V} {ls : List (List Nat)} {i : Nat} {l : List Nat} (h : RowsIn H vs ls) (e : ls[i]? = some l) : ∃ a, vs[i]? = some (.ref a) ∧ H a = some (.tup (nums l)) := by
  induction h generalizing i with
  | nil => simp at e
  | cons x r ih =>
    cases i with
    | zero =>
      obtain ⟨a, e1, h1⟩ := x
      simp at e
      subst e
      exact ⟨a, by rw [e1]; rfl, h1⟩
    | succ i =>
      obtain ⟨a, h1, h2⟩ := ih (i := i) (by simpa using e)
      exact ⟨a, by simpa using h1, h2⟩
theorem pair_at {H : Hp} {as : List V} {ps : List (Nat × Nat)} {i : Nat} {p : Nat × Nat} (h : PairsIn H as ps) (e : ps[i]? = some p) : ∃ a, as[i]? = some (.ref a) ∧ H a = some (.tup [.int p.1, .int p.2]) := by
  induction h generalizing i with
  | nil => simp at e
  | cons x r ih =>
    cases i with
    | zero =>
      obtain ⟨a, e1, h1⟩ := x
      simp at e
      subst e
      exact ⟨a, by rw [e1]; rfl, h1⟩
    | succ i =>
      obtain ⟨a, h1, h2⟩ := ih (i := i) (by simpa using e)
      exact ⟨a, by simpa using h1, h2⟩
theorem gat_at {n r : Nat} (ps : List Nat) (h : r < n) : (gat n ps)[r]? = some (idxs ps r 0) := by
  unfold gat
  rw [List.getElem?_map, List.getElem?_range h]
  rfl
section
variable {P : Program} {w : World} {K : PySem.W.Frag} {mg : Str → Option Value} {base : Heap}
theorem scHas : FnScope ["self", "arrow"] ["self", "arrow"] (defScope sHas) := ⟨rfl, rfl, rfl, by decide +kernel, rfl, by decide +kernel, by decide +kernel⟩
theorem ok_has {f C : Addr} {fd : FuncData} (F : Fun K "has_arrow" "Web.has_arrow" sHas f fd) (T : WebC K C) (mLen : mg "len" = none) : FnOk P w K mg base CX0 1 f fd ["self", "arrow"] (spHas C) := by
  refine F.ok scHas (fun vs H Q E h => ?_) (fun cdv A outer s H vs Q E hr h => ?_)
  · obtain ⟨x, n, ps, i, rfl, _⟩ := h
    rfl
  · obtain ⟨x, n, ps, i, rfl, ⟨dx, q, lv, en, as, ls, es, hx, hq, hP, _⟩, k⟩ := h
    have hl : as.length = ps.length := Paired.length hP
    refine ⟨_, pss_one (ps_ret (pe_chain op_le op_lt pe_int (pv 1) (pe_callB call_len_seq (by rfl) mLen PySem.boot_len (pa_cons (pe_fld (pv 0) rfl) pa_nil)))), ?_⟩
    refine ⟨_, rfl, _, _, rfl, rfl, _, rfl, ?_⟩
    refine ite2 (fun h0 => ?_) (fun h0 => ?_)
    · refine ⟨_, rfl, x, C, dx, _, _, rfl, hx, T.cl, T.nP, wf_pairs _ _ _ _, q, _, rfl, .inr hq.sq, _, _, rfl, rfl, ?_⟩
      have h0' : 0 ≤ i := of_decide_eq_true h0
      have e : decide (i < ((as.length : Nat) : Int)) = decide (0 ≤ i ∧ i < ((ps.length : Nat) : Int)) := by rw [hl]; simp [h0']
      dsimp only
      rw [e]
      exact k
    · have h0' : ¬ 0 ≤ i := fun z => h0 (decide_eq_true z)
      have e : decide (0 ≤ i ∧ i < ((ps.length : Nat) : Int)) = false := by simp [h0']
      rw [e] at k
      exact k
theorem scNeedA : FnScope ["self", "arrow"] ["self", "arrow"] (defScope sNeedA) := ⟨rfl, rfl, rfl, by decide +kernel, rfl, by decide +kernel, by decide +kernel⟩
theorem wf_meth (n : Nat) (q lv en : Addr) {m : Str} (h : (decide (m = "entering") || decide (m = "leaving") || decide (m = "pairs") || decide (m = "room_total")) = false) : (wf n q lv en).lookup m = none := by
  simp only [Bool.or_eq_false_iff, decide_eq_false_iff_not] at h
  exact wf_no _ _ _ _ h.1.1.1 h.1.1.2 h.1.2 h.2
theorem ok_need_arrow {f fH C : Addr} {fd fdH : FuncData} (F : Fun K "need_arrow" "Web.need_arrow" sNeedA f fd) (T : WebC K C) (GH : FnOk P w K mg base CX0 1 fH fdH ["self", "arrow"] (spHas C)) (bH : Binds K fdH ["self", "arrow"] []) (mH : Meth K C "has_arrow" fH) :
    FnOk P w K mg base CX0 2 f fd ["self", "arrow"] (spNeedA C) := by
  refine F.ok scNeedA (fun vs H Q E h => ?_) (fun cdv A outer s H vs Q E hr h => ?_)
  · obtain ⟨x, n, ps, i, rfl, _⟩ := h
    rfl
  · obtain ⟨x, n, ps, i, rfl, W, hi, k⟩ := h
    obtain ⟨dx, q, lv, en, as, ls, es, hx, hq, hP, _⟩ := id W
    refine ⟨_, pss_one (ps_if (pt_not (pt_val (pe_meth (pv 0) T.cl mH GH hr bH .nil pass0 (pa_cons (pv 1) pa_nil)))) pss_never pss_nil), ?_⟩
    have e : decide (0 ≤ ((i : Nat) : Int) ∧ ((i : Nat) : Int) < ((ps.length : Nat) : Int)) = true := decide_eq_true ⟨by omega, by omega⟩
    exact ⟨_, rfl, x, dx, _, rfl, hx, wf_meth _ _ _ _ (by decide +kernel), _, rfl, x, n, ps, i, rfl, W, true, congrArg V.bl e, iteF k⟩
theorem scNeedR : FnScope ["self", "room"] ["self", "room"] (defScope sNeedR) := ⟨rfl, rfl, rfl, by decide +kernel, rfl, by decide +kernel, by decide +kernel⟩
theorem ok_need_room {f C : Addr} {fd : FuncData} (F : Fun K "need_room" "Web.need_room" sNeedR f fd) (T : WebC K C) : FnOk P w K mg base CX0 1 f fd ["self", "room"] (spNeedR C) := by
  refine F.ok scNeedR (fun vs H Q E h => ?_) (fun cdv A outer s H vs Q E hr h => ?_)
  · obtain ⟨x, n, ps, i, rfl, _⟩ := h
    rfl
  · obtain ⟨x, n, ps, i, rfl, ⟨dx, q, lv, en, as, ls, es, hx, hq, hP, _⟩, hi, k⟩ := h
    refine ⟨_, pss_one (ps_if (pt_not (pt_chain op_le op_lt pe_int (pv 1) (pe_fld (pv 0) rfl))) pss_never pss_nil), ?_⟩
    have d1 : decide ((0 : Int) ≤ (i : Int)) = true := decide_eq_true (by omega)
    have d2 : decide ((i : Int) < (n : Int)) = true := decide_eq_true (by omega)
    exact ⟨_, rfl, _, _, rfl, rfl, true, congrArg V.bl d1, iteT ⟨_, rfl, x, C, dx, _, _, rfl, hx, T.cl, T.nT, wf_total _ _ _ _, _, _, rfl, rfl, true, congrArg V.bl d2, iteF k⟩⟩
theorem scRooms : FnScope ["self"] ["self"] (defScope sRooms) := ⟨rfl, rfl, rfl, by decide +kernel, rfl, by decide +kernel, by decide +kernel⟩
theorem ok_rooms {f C : Addr} {fd : FuncData} (F : Fun K "rooms" "Web.rooms" sRooms f fd) (T : WebC K C) : FnOk P w K mg base CX0 1 f fd ["self"] (spRooms C) := by
  refine F.ok scRooms (fun vs H Q E h => ?_) (fun cdv A outer s H vs Q E hr h => ?_)
  · obtain ⟨x, n, ps, rfl, _⟩ := h
    rfl
  · obtain ⟨x, n, ps, rfl, ⟨dx, q, lv, en, as, ls, es, hx, hq, hP, _⟩, k⟩ := h
    exact ⟨_, pss_one (ps_ret (pe_fld (pv 0) rfl)), _, rfl, x, C, dx, _, _, rfl, hx, T.cl, T.nT, wf_total _ _ _ _, k⟩
theorem scLen : FnScope ["self"] ["self"] (defScope sLen) := ⟨rfl, rfl, rfl, by decide +kernel, rfl, by decide +kernel, by decide +kernel⟩
theorem ok_len {f C : Addr} {fd : FuncData} (F : Fun K "__len__" "Web.__len__" sLen f fd) (T : WebC K C) (mLen : mg "len" = none) : FnOk P w K mg base CX0 1 f fd ["self"] (spLen C) := by
  refine F.ok scLen (fun vs H Q E h => ?_) (fun cdv A outer s H vs Q E hr h => ?_)
  · obtain ⟨x, n, ps, rfl, _⟩ := h
    rfl
  · obtain ⟨x, n, ps, rfl, ⟨dx, q, lv, en, as, ls, es, hx, hq, hP, _⟩, k⟩ := h
    have hl : as.length = ps.length := Paired.length hP
    refine ⟨_, pss_one (ps_ret (pe_callB call_len_seq (by rfl) mLen PySem.boot_len (pa_cons (pe_fld (pv 0) rfl) pa_nil))), _, rfl, x, C, dx, _, _, rfl, hx, T.cl, T.nP, wf_pairs _ _ _ _, q, _, rfl, .inr hq.sq, ?_⟩
    rw [hl]
    exact k
theorem scArrows : FnScope ["self"] ["self"] (defScope sArrows) := ⟨rfl, rfl, rfl, by decide +kernel, rfl, by decide +kernel, by decide +kernel⟩
theorem ok_arrows {f C : Addr} {fd : FuncData} (F : Fun K "arrows" "Web.arrows" sArrows f fd) (T : WebC K C) (mList : mg "list" = none) : FnOk P w K mg base CX0 1 f fd ["self"] (spArrows C) := by
  refine F.ok scArrows (fun vs H Q E h => ?_) (fun cdv A outer s H vs Q E hr h => ?_)
  · obtain ⟨x, n, ps, rfl, _⟩ := h
    rfl
  · obtain ⟨x, n, ps, rfl, ⟨dx, q, lv, en, as, ls, es, hx, hq, hP, _⟩, k⟩ := h
    exact ⟨_, pss_one (ps_ret (pe_callTy call_list_of (by rfl) mList (by decide +kernel) (pa_cons (pe_fld (pv 0) rfl) pa_nil))), _, rfl, x, C, dx, _, _, rfl, hx, T.cl, T.nP, wf_pairs _ _ _ _, q, _, rfl, .inr hq.sq, fun l hl =>
      k _ l as (same_new (Same.refl H) hl) hl upd_same (PairsIn.kp (Kp.new hl) hP)⟩
theorem scBegin : FnScope ["self", "arrow"] ["self", "arrow"] (defScope sBegin) := ⟨rfl, rfl, rfl, by decide +kernel, rfl, by decide +kernel, by decide +kernel⟩
theorem ok_begin {f fN C : Addr} {fd fdN : FuncData} (F : Fun K "begin" "Web.begin" sBegin f fd) (T : WebC K C) (GN : FnOk P w K mg base CX0 2 fN fdN ["self", "arrow"] (spNeedA C)) (bN : Binds K fdN ["self", "arrow"] []) (mN : Meth K C "need_arrow" fN) :
    FnOk P w K mg base CX0 3 f fd ["self", "arrow"] (spBegin C) := by
  refine F.ok scBegin (fun vs H Q E h => ?_) (fun cdv A outer s H vs Q E hr h => ?_)
  · obtain ⟨x, n, ps, i, p, rfl, _⟩ := h
    rfl
  · obtain ⟨x, n, ps, i, p, rfl, W, hp, k⟩ := h
    obtain ⟨dx, q, lv, en, as, ls, es, hx, hq, hP, _⟩ := id W
    have hi : i < ps.length := (List.getElem?_eq_some_iff.mp hp).1
    obtain ⟨c, hc, hcp⟩ := pair_at hP hp
    refine ⟨_, pss_cons (ps_expr (pe_meth (pv 0) T.cl mN GN hr bN .nil pass0 (pa_cons (pv 1) pa_nil))) (pss_one (ps_ret (pe_ix ix_tup (pe_ix ix_tup (pe_fld (pv 0) rfl) (pv 1) (fun _ _ => rfl)) pe_int (fun _ _ => rfl)))), ?_⟩
    exact ⟨_, rfl, x, dx, _, rfl, hx, wf_meth _ _ _ _ (by decide +kernel), _, rfl, x, n, ps, i, rfl, W, hi, _, rfl, x, C, dx, _, _, rfl, hx, T.cl, T.nP, wf_pairs _ _ _ _, _, rfl, q, _, _, _, rfl, rfl, hq.sq, atI_nat hc, c, _, _, _, rfl, rfl, SqT.of hcp, rfl, k⟩
theorem scEnd : FnScope ["self", "arrow"] ["self", "arrow"] (defScope sEnd) := ⟨rfl, rfl, rfl, by decide +kernel, rfl, by decide +kernel, by decide +kernel⟩
theorem ok_end {f fN C : Addr} {fd fdN : FuncData} (F : Fun K "end" "Web.end" sEnd f fd) (T : WebC K C) (GN : FnOk P w K mg base CX0 2 fN fdN ["self", "arrow"] (spNeedA C)) (bN : Binds K fdN ["self", "arrow"] []) (mN : Meth K C "need_arrow" fN) :
    FnOk P w K mg base CX0 3 f fd ["self", "arrow"] (spEnd C) := by
  refine F.ok scEnd (fun vs H Q E h => ?_) (fun cdv A outer s H vs Q E hr h => ?_)
  · obtain ⟨x, n, ps, i, p, rfl, _⟩ := h
    rfl
  · obtain ⟨x, n, ps, i, p, rfl, W, hp, k⟩ := h
    obtain ⟨dx, q, lv, en, as, ls, es, hx, hq, hP, _⟩ := id W
    have hi : i < ps.length := (List.getElem?_eq_some_iff.mp hp).1
    obtain ⟨c, hc, hcp⟩ := pair_at hP hp
    refine ⟨_, pss_cons (ps_expr (pe_meth (pv 0) T.cl mN GN hr bN .nil pass0 (pa_cons (pv 1) pa_nil))) (pss_one (ps_ret (pe_ix ix_tup (pe_ix ix_tup (pe_fld (pv 0) rfl) (pv 1) (fun _ _ => rfl)) pe_int (fun _ _ => rfl)))), ?_⟩
    exact ⟨_, rfl, x, dx, _, rfl, hx, wf_meth _ _ _ _ (by decide +kernel), _, rfl, x, n, ps, i, rfl, W, hi, _, rfl, x, C, dx, _, _, rfl, hx, T.cl, T.nP, wf_pairs _ _ _ _, _, rfl, q, _, _, _, rfl, rfl, hq.sq, atI_nat hc, c, _, _, _, rfl, rfl, SqT.of hcp, rfl, k⟩
theorem scOuts : FnScope ["self", "room"] ["self", "room"] (defScope sOuts) := ⟨rfl, rfl, rfl, by decide +kernel, rfl, by decide +kernel, by decide +kernel⟩
theorem ok_outs {f fN C : Addr} {fd fdN : FuncData} (F : Fun K "outs" "Web.outs" sOuts f fd) (T : WebC K C) (GN : FnOk P w K mg base CX0 1 fN fdN ["self", "room"] (spNeedR C)) (bN : Binds K fdN ["self", "room"] []) (mN : Meth K C "need_room" fN) (mList : mg "list" = none) :
    FnOk P w K mg base CX0 2 f fd ["self", "room"] (spOuts C) := by
  refine F.ok scOuts (fun vs H Q E h => ?_) (fun cdv A outer s H vs Q E hr h => ?_)
  · obtain ⟨x, n, ps, r, rfl, _⟩ := h
    rfl
  · obtain ⟨x, n, ps, r, rfl, W, hi, k⟩ := h
    obtain ⟨dx, q, lv, en, as, ls, es, hx, hq, hP, hlv, hR, hen, hR2⟩ := id W
    obtain ⟨c, hc, hcp⟩ := row_at hR (gat_at _ hi)
    refine ⟨_, pss_cons (ps_expr (pe_meth (pv 0) T.cl mN GN hr bN .nil pass0 (pa_cons (pv 1) pa_nil))) (pss_one (ps_ret (pe_callTy call_list_of (by rfl) mList (by decide +kernel) (pa_cons (pe_ix ix_tup (pe_fld (pv 0) rfl) (pv 1) (fun _ _ => rfl)) pa_nil)))), ?_⟩
    exact ⟨_, rfl, x, dx, _, rfl, hx, wf_meth _ _ _ _ (by decide +kernel), _, rfl, x, n, ps, r, rfl, W, hi, _, rfl, x, C, dx, _, _, rfl, hx, T.cl, T.nL, wf_leaving _ _ _ _, _, rfl, lv, _, _, _, rfl, rfl, SqT.of hlv, atI_nat hc, c, _, rfl, .inr (SqT.of hcp), fun l hl =>
      k _ l (same_new (Same.refl H) hl) hl upd_same⟩
theorem scIns : FnScope ["self", "room"] ["self", "room"] (defScope sIns) := ⟨rfl, rfl, rfl, by decide +kernel, rfl, by decide +kernel, by decide +kernel⟩
theorem ok_ins {f fN C : Addr} {fd fdN : FuncData} (F : Fun K "ins" "Web.ins" sIns f fd) (T : WebC K C) (GN : FnOk P w K mg base CX0 1 fN fdN ["self", "room"] (spNeedR C)) (bN : Binds K fdN ["self", "room"] []) (mN : Meth K C "need_room" fN) (mList : mg "list" = none) :
    FnOk P w K mg base CX0 2 f fd ["self", "room"] (spIns C) := by
  refine F.ok scIns (fun vs H Q E h => ?_) (fun cdv A outer s H vs Q E hr h => ?_)
  · obtain ⟨x, n, ps, r, rfl, _⟩ := h
    rfl
  · obtain ⟨x, n, ps, r, rfl, W, hi, k⟩ := h
    obtain ⟨dx, q, lv, en, as, ls, es, hx, hq, hP, hlv, hR, hen, hR2⟩ := id W
    obtain ⟨c, hc, hcp⟩ := row_at hR2 (gat_at _ hi)
    refine ⟨_, pss_cons (ps_expr (pe_meth (pv 0) T.cl mN GN hr bN .nil pass0 (pa_cons (pv 1) pa_nil))) (pss_one (ps_ret (pe_callTy call_list_of (by rfl) mList (by decide +kernel) (pa_cons (pe_ix ix_tup (pe_fld (pv 0) rfl) (pv 1) (fun _ _ => rfl)) pa_nil)))), ?_⟩
    exact ⟨_, rfl, x, dx, _, rfl, hx, wf_meth _ _ _ _ (by decide +kernel), _, rfl, x, n, ps, r, rfl, W, hi, _, rfl, x, C, dx, _, _, rfl, hx, T.cl, T.nE, wf_entering _ _ _ _, _, rfl, en, _, _, _, rfl, rfl, SqT.of hen, atI_nat hc, c, _, rfl, .inr (SqT.of hcp), fun l hl =>
      k _ l (same_new (Same.refl H) hl) hl upd_same⟩
theorem scLeading : FnScope ["self", "one", "other"] ["self", "one", "other"] (defScope sLeading) := ⟨rfl, rfl, rfl, by decide +kernel, rfl, by decide +kernel, by decide +kernel⟩
theorem ok_leading {f fN C : Addr} {fd fdN : FuncData} (F : Fun K "leading" "Web.leading" sLeading f fd) (T : WebC K C) (GN : FnOk P w K mg base CX0 1 fN fdN ["self", "room"] (spNeedR C)) (bN : Binds K fdN ["self", "room"] []) (mN : Meth K C "need_room" fN) :
    FnOk P w K mg base CX0 2 f fd ["self", "one", "other"] (spLeading C) := by
  refine F.ok scLeading (fun vs H Q E h => ?_) (fun cdv A outer s H vs Q E hr h => ?_)
  · obtain ⟨x, n, ps, r, r2, rfl, _⟩ := h
    rfl
  · obtain ⟨x, n, ps, r, r2, rfl, W, hi, hi2, k⟩ := h
    obtain ⟨dx, q, lv, en, as, ls, es, hx, hq, hP, hlv, hR, hen, hR2⟩ := id W
    refine ⟨_, pss_cons (ps_expr (pe_meth (pv 0) T.cl mN GN hr bN .nil pass0 (pa_cons (pv 1) pa_nil))) (pss_cons (ps_expr (pe_meth (pv 0) T.cl mN GN hr bN .nil pass0 (pa_cons (pv 2) pa_nil)))
      (pss_one (ps_ret (pe_tcount (hu65 hr) (pe_fld (pv 0) rfl) (pa_cons (pe_tup (pa_cons (pv 1) (pa_cons (pv 2) pa_nil))) pa_nil))))), ?_⟩
    refine ⟨_, rfl, x, dx, _, rfl, hx, wf_meth _ _ _ _ (by decide +kernel), _, rfl, x, n, ps, r, rfl, W, hi, _, rfl, x, dx, _, rfl, hx, wf_meth _ _ _ _ (by decide +kernel), _, rfl, x, n, ps, r2, rfl, W, hi2, ?_⟩
    refine ⟨_, rfl, x, C, dx, _, _, rfl, hx, T.cl, T.nP, wf_pairs _ _ _ _, q, _, rfl, hq, _, rfl, _, rfl, by show 2 ≤ sizeLine; decide, fun U hU => ?_⟩
    exact ⟨q, _, .tuple [.int r, .int r2], ps.map pD, rfl, rfl, .tup ((Kp.new hU).f hq).sq (dp_pairs (PairsIn.kp (Kp.new hU) hP)), .tup (SqT.of upd_same) (.cons (.int _) (.cons (.int _) .nil)), pD_plain ps, rfl, (by show 1 ≤ 64; decide), k _ (same_new (Same.refl H) hU)⟩
theorem scRepr : FnScope ["self"] ["self"] (defScope sRepr) := ⟨rfl, rfl, rfl, by decide +kernel, rfl, by decide +kernel, by decide +kernel⟩
theorem ok_repr {f C : Addr} {fd : FuncData} (F : Fun K "__repr__" "Web.__repr__" sRepr f fd) (T : WebC K C) (mLen : mg "len" = none) : FnOk P w K mg base CX0 1 f fd ["self"] (spRepr C) := by
  refine F.ok scRepr (fun vs H Q E h => ?_) (fun cdv A outer s H vs Q E hr h => ?_)
  · obtain ⟨x, n, ps, rfl, _⟩ := h
    rfl
  · obtain ⟨x, n, ps, rfl, ⟨dx, q, lv, en, as, ls, es, hx, hq, hP, _⟩, hn, hp, k⟩ := h
    have hl : as.length = ps.length := Paired.length hP
    have l1 := numT_len n hn
    have l2 := numT_len ps.length hp
    have c1 : ("Web(" : Str).length = 4 := by decide +kernel
    have c2 : (" rooms, " : Str).length = 8 := by decide +kernel
    have c3 : (" arrows)" : Str).length = 8 := by decide +kernel
    have c0 : Str.empty.length = 0 := by decide +kernel
    have b1 : (Str.empty ++ "Web(").length ≤ sizeLine := by rw [str_len_append, sizeLine_eq]; omega
    have b2 : (Str.empty ++ "Web(" ++ numT n).length ≤ sizeLine := by rw [str_len_append, str_len_append, sizeLine_eq]; omega
    have b3 : (Str.empty ++ "Web(" ++ numT n ++ " rooms, ").length ≤ sizeLine := by rw [str_len_append, str_len_append, str_len_append, sizeLine_eq]; omega
    have b4 : (Str.empty ++ "Web(" ++ numT n ++ " rooms, " ++ numT ps.length).length ≤ sizeLine := by rw [str_len_append, str_len_append, str_len_append, str_len_append, sizeLine_eq]; omega
    have b5 : (webTxt n ps.length).length ≤ sizeLine := by unfold webTxt; rw [str_len_append, str_len_append, str_len_append, str_len_append, str_len_append, sizeLine_eq]; omega
    refine ⟨_, pss_one (ps_ret (pe_joined (.cons pe_str (.cons (pe_fmt (pe_fld (pv 0) rfl)) (.cons pe_str (.cons (pe_fmt (pe_callB call_len_seq (by rfl) mLen PySem.boot_len (pa_cons (pe_fld (pv 0) rfl) pa_nil))) (.cons pe_str .nil))))))), ?_⟩
    refine ⟨_, rfl, b1, _, rfl, x, C, dx, _, _, rfl, hx, T.cl, T.nT, wf_total _ _ _ _, .inr ⟨_, rfl, small_log n hn, numT n, rfl, b2, _, rfl, b3, _, rfl, x, C, dx, _, _, rfl, hx, T.cl, T.nP, wf_pairs _ _ _ _, q, _, rfl, .inr hq.sq, .inr ⟨_, rfl, ?_, numT ps.length, ?_, b4, _, rfl, b5, k⟩⟩⟩
    · rw [hl]
      exact small_log _ hp
    · rw [hl]
      rfl
theorem scEq : FnScope ["self", "other"] ["self", "other"] (defScope sEq) := ⟨rfl, rfl, rfl, by decide +kernel, rfl, by decide +kernel, by decide +kernel⟩
theorem ok_eq {f C : Addr} {fd : FuncData} (F : Fun K "__eq__" "Web.__eq__" sEq f fd) (T : WebC K C) (TQ : WebQ K C) (mIsi : mg "isinstance" = none) (mC : mg "Web" = some (.ref C)) : FnOk P w K mg base CX0 1 f fd ["self", "other"] (spEq C) := by
  refine F.ok scEq (fun vs H Q E h => ?_) (fun cdv A outer s H vs Q E hr h => ?_)
  · obtain ⟨x, y, n, ps, rfl, _⟩ := h
    rfl
  · obtain ⟨x, y, n, ps, rfl, ⟨dx, q, lv, en, as, ls, es, hx, hq, hP, _⟩, k⟩ := h
    refine ⟨_, pss_one (ps_ret (pe_and (pe_callB call_isi (by rfl) mIsi (by decide +kernel) (pa_cons (pv 1) (pa_cons (pe_glob (v := .ref C) rfl mC rfl) pa_nil)))
      (pe_and (pe_cmpR op_eq (pe_fld (pv 0) rfl) (pe_fld (pv 1) rfl) (nomark _)) (pe_one (pe_cmpR (op_eqD hr.units) (pe_fld (pv 0) rfl) (pe_fld (pv 1) rfl) (nomark _)))))), ?_⟩
    rcases k with ⟨m, qs, ⟨dy, q2, lv2, en2, as2, ls2, es2, hy, hq2, hP2, _⟩, k⟩ | ⟨ys, ⟨oy, hy, _⟩, k⟩
    · refine ⟨_, rfl, .ref y, .ref C, .ref C, .ref C, true, rfl, .own C, .base (.ins hy T.cl TQ.ha TQ.hn TQ.ht TQ.hm), TQ.kO, true, rfl, iteT ?_⟩
      refine ⟨_, rfl, x, C, dx, _, _, rfl, hx, T.cl, T.nT, wf_total _ _ _ _, _, rfl, y, C, dy, _, _, rfl, hy, T.cl, T.nT, wf_total _ _ _ _, rfl, _, rfl, ?_⟩
      refine ite2 (fun e => ?_) (fun e => ?_)
      · have e1 : n = m := by
          have z := of_decide_eq_true e
          injection z with z
          omega
        refine ⟨_, rfl, x, C, dx, _, _, rfl, hx, T.cl, T.nP, wf_pairs _ _ _ _, _, rfl, y, C, dy, _, _, rfl, hy, T.cl, T.nP, wf_pairs _ _ _ _, .tuple (ps.map pD), .tuple (qs.map pD), .tup hq.sq (dp_pairs hP), .tup hq2.sq (dp_pairs hP2), pDs_shaped _, pDs_shaped _, ?_⟩
        have e2 : PyData.eqv (.tuple (ps.map pD)) (.tuple (qs.map pD)) = decide (n = m ∧ ps = qs) := by
          simp only [PyData.eqv, pDs_eqv, e1, true_and]
        rw [e2]
        exact k
      · have e1 : ¬ n = m := fun z => e (decide_eq_true (by rw [z]))
        have e2 : decide (n = m ∧ ps = qs) = false := decide_eq_false fun z => e1 z.1
        rw [e2] at k
        exact k
    · exact ⟨_, rfl, .ref y, .ref C, .type "tuple", .ref C, false, rfl, .own C, .fTuple hy, TQ.kT, false, rfl, iteF k⟩
end
end KW
set_option Elab.async false
set_option maxRecDepth 100000
/-! The law's own: outs, ins, count, naming, named. -/
namespace KW
open PySem PySem.Spec PyProof.Rows L2
abbrev sLOuts : Stmt := topS 25
abbrev sLIns : Stmt := topS 26
abbrev sLCount : Stmt := topS 29
abbrev sLNaming : Stmt := topS 28
abbrev sLNamed : Stmt := topS 27
def spLOuts : Sp := fun vs H Q _ => ∃ (t : Addr) (n : Nat) (ps : List (Nat × Nat)) (r : Nat), vs = [.ref t, .int r] ∧ WebT H t n ps ∧ ps.length ≤ 500 ∧ ∀ (H' : Hp) (l : Addr), Same H H' → H l = none → H' l = some (.lst (nums (idxs (ps.map (·.1)) r 0))) → Q (.ref l) H'
def spLIns : Sp := fun vs H Q _ => ∃ (t : Addr) (n : Nat) (ps : List (Nat × Nat)) (r : Nat), vs = [.ref t, .int r] ∧ WebT H t n ps ∧ ps.length ≤ 500 ∧ ∀ (H' : Hp) (l : Addr), Same H H' → H l = none → H' l = some (.lst (nums (idxs (ps.map (·.2)) r 0))) → Q (.ref l) H'
def spLCount : Sp := fun vs H Q _ => ∃ (t : Addr) (n : Nat) (ps : List (Nat × Nat)) (r s : Nat), vs = [.ref t, .int r, .int s] ∧ WebT H t n ps ∧ ∀ H' : Hp, Same H H' → Q (.int (cnt ps r s)) H'
def spNaming : Sp := fun vs H Q _ => ∃ (b l : Addr) (ns : List Int) (t : Addr) (n : Nat) (ps : List (Nat × Nat)), vs = [.ref b, .ref t] ∧ BagAt b l ns H ∧ WebT H t n ps ∧ n ≤ 500 ∧ ps.length ≤ 500 ∧
  ∀ (H' : Hp) (u a1 a2 : Addr) (rs is : List Nat), Grow b H H' → BagAt b l ns H' → H' u = some (.tup [.ref a1, .ref a2]) → H' a1 = some (.lst (nums rs)) → H' a2 = some (.lst (nums is)) → rs.Perm (List.range n) → is.Perm (List.range ps.length) → Q (.ref u) H'
def spNamed (K : PySem.W.Frag) : Sp := fun vs H Q _ => ∃ (t a1 a2 : Addr) (n : Nat) (ps : List (Nat × Nat)) (rs is : List Nat), vs = [.ref t, .ref a1, .ref a2] ∧ WebT H t n ps ∧ n ≤ 500 ∧ ps.length ≤ 500 ∧ H a1 = some (.lst (nums rs)) ∧ H a2 = some (.lst (nums is)) ∧ rs.Perm (List.range n) ∧ is.Perm (List.range ps.length) ∧
  ∀ (H' : Hp) (u : Addr) (qs : List (Nat × Nat)), Same H H' → WebT H' u n qs → qs.length = ps.length → Q (.ref u) H'
theorem rg_nums (n : Nat) : rgV 0 (n : Int) = nums (List.range n) := by
  unfold rgV nums
  have e : ((n : Int) - 0).toNat = n := by omega
  rw [e]
  apply List.map_congr_left
  intro i _
  show V.int (0 + (i : Int)) = V.int (i : Int)
  rw [Int.zero_add]
theorem perm_nums {ys : List V} {l : List Nat} (h : ys.Perm (nums l)) : ∃ rs, ys = nums rs ∧ rs.Perm l := by
  have paired : Paired (fun v i => v = nV i) (nums l) l := by
    have all : ∀ l : List Nat, Paired (fun v i => v = nV i) (nums l) l := by
      intro l
      induction l with
      | nil => exact .nil
      | cons i l ih => exact .cons rfl ih
    exact all l
  obtain ⟨rs, h1, h2⟩ := paired_perm h paired
  refine ⟨rs, ?_, h2⟩
  have back : ∀ {vs : List V} {l : List Nat}, Paired (fun v i => v = nV i) vs l → vs = nums l := by
    intro vs l r
    induction r with
    | nil => rfl
    | cons e _ ih => rw [e, ih]; rfl
  exact back h1
theorem nums_at {l : List Nat} {i j : Nat} (h : l[i]? = some j) : (nums l)[i]? = some (.int (j : Int)) := by
  unfold nums
  rw [List.getElem?_map, h]
  rfl
section
variable {P : Program} {w : World} {K : PySem.W.Frag} {mg : Str → Option Value} {base : Heap}
abbrev nLOuts : List Str := ["_law_w", "_law_room", "_law_at", "_law_pair"]
theorem scLOuts : FnScope nLOuts ["_law_w", "_law_room"] (defScope sLOuts) := ⟨rfl, rfl, rfl, by decide +kernel, rfl, by decide +kernel, by decide +kernel⟩
theorem scLIns : FnScope nLOuts ["_law_w", "_law_room"] (defScope sLIns) := ⟨rfl, rfl, rfl, by decide +kernel, rfl, by decide +kernel, by decide +kernel⟩
theorem ok_louts {f : Addr} {fd : FuncData} (F : Fun K "_law_outs" "_law_outs" sLOuts f fd) (mEnum : mg "enumerate" = none) : FnOk P w K mg base CX0 1 f fd ["_law_w", "_law_room"] spLOuts := by
  refine F.ok scLOuts (fun vs H Q E h => ?_) (fun cdv A outer s H vs Q E hr h => ?_)
  · obtain ⟨t, n, ps, r, rfl, _⟩ := h
    rfl
  · obtain ⟨t, n, ps, r, rfl, ⟨q, as, ht, hq, hP, hG⟩, hlen, k⟩ := h
    have hl : as.length = ps.length := Paired.length hP
    refine ⟨_, pss_one (ps_ret (pe_lc (own := [("_law_at", 2), ("_law_pair", 3)]) (g := gTup K 2 (gCons (gName 2) (gCons (gName 3) gNil))) rfl scLOuts.nd (pi_enT (by rfl) mEnum (pa_cons (pe_ix ix_tup (pv 0) pe_int (fun _ _ => rfl)) pa_nil))
      (blkOk_by (own := [("_law_at", 2), ("_law_pair", 3)]) (N := nLOuts) (sc := defScope sLOuts) (by decide +kernel)) (fun _ _ _ _ _ => pg_tup rfl (pgs_cons (pg_name (i := 2) scLOuts.nd rfl (Or.inl rfl)) (pgs_cons (pg_name (i := 3) scLOuts.nd rfl (Or.inl rfl)) pgs_nil)))
      (fun _ _ _ _ _ => pts_one (pt_cmpR op_eq (pe_ix (ix_tupK (K := K) rfl) (pv 3) pe_int (fun _ _ => rfl)) (pv 1) (nomark _))) (fun _ _ _ _ _ => pv 2))), ?_⟩
    refine ⟨_, rfl, t, _, _, _, rfl, rfl, SqT.of ht, rfl, q, as, rfl, hq.sq, fun D hD => ?_⟩
    refine lc_it (walk_enT (K := K) (a := q) (xs := as)) (fun i H' => H' D = some (.lst (nums (idxs ((ps.take i).map (·.1)) r 0))) ∧ Same H H')
      ⟨upd_same, same_new (Same.refl H) hD⟩ (fun i H' _ ⟨_, s'⟩ => ((Same.kp s').f hq).sq) ?_ ?_
    · rintro i x H' H2 hi ⟨hD', s'⟩ ⟨T, x1, x2, rfl, hT, rfl, e1, e2⟩
      have e1 : V.int (i : Nat) = x1 := Option.some.inj e1
      subst e1
      obtain ⟨p, c, hp, rfl, hc⟩ := pairs_get hP e2
      have nDT : D ≠ T := ne_of_none hD' hT
      have hc2 : upd H' T (.tup [.int (i : Nat), .ref c]) c = some (.tup [.int p.1, .int p.2]) := by rw [upd_ne (ne_of_none (s' _ _ hc) hT)]; exact s' _ _ hc
      have hD2 : upd H' T (.tup [.int (i : Nat), .ref c]) D = some (.lst (nums (idxs ((ps.take i).map (·.1)) r 0))) := by rw [upd_ne nDT]; exact hD'
      have tl : ((ps.take i).map (·.1)).length = i := by
        have := (List.getElem?_eq_some_iff.mp hp).1
        rw [List.length_map, List.length_take]
        omega
      have et : (ps.take (i + 1)).map (·.1) = (ps.take i).map (·.1) ++ [p.1] := by
        rw [take_snoc hp, List.map_append]
        rfl
      refine ⟨T, _, rfl, SqT.of upd_same, rfl, _, _, rfl, _, _, rfl, rfl, rfl, _, rfl, c, _, _, _, rfl, rfl, SqT.of hc2, rfl, _, rfl, rfl, _, rfl, ?_⟩
      refine ite2 (fun e => ?_) (fun e => ?_)
      · have e' : p.1 = r := by
          have z := of_decide_eq_true e
          injection z with z
          omega
        refine ⟨_, rfl, _, hD2, ?_, ?_, same_put (same_new s' hT) hD⟩
        · have := idxs_len r ((ps.take i).map (·.1)) 0
          rw [sizeLine_eq]
          simp only [nums, List.length_map] at this ⊢
          have := List.length_take_le' i ps
          omega
        · rw [upd_same, et, idxs_snoc, if_pos e', tl, Nat.zero_add, nums_snoc]
      · have e' : ¬ p.1 = r := fun z => e (decide_eq_true (by rw [z]))
        refine ⟨?_, same_new s' hT⟩
        rw [et, idxs_snoc, if_neg e', List.append_nil]
        exact hD2
    · rintro H' ⟨hD', s'⟩
      rw [hl, List.take_length] at hD'
      exact k H' D s' hD hD'
theorem ok_lins {f : Addr} {fd : FuncData} (F : Fun K "_law_ins" "_law_ins" sLIns f fd) (mEnum : mg "enumerate" = none) : FnOk P w K mg base CX0 1 f fd ["_law_w", "_law_room"] spLIns := by
  refine F.ok scLIns (fun vs H Q E h => ?_) (fun cdv A outer s H vs Q E hr h => ?_)
  · obtain ⟨t, n, ps, r, rfl, _⟩ := h
    rfl
  · obtain ⟨t, n, ps, r, rfl, ⟨q, as, ht, hq, hP, hG⟩, hlen, k⟩ := h
    have hl : as.length = ps.length := Paired.length hP
    refine ⟨_, pss_one (ps_ret (pe_lc (own := [("_law_at", 2), ("_law_pair", 3)]) (g := gTup K 2 (gCons (gName 2) (gCons (gName 3) gNil))) rfl scLIns.nd (pi_enT (by rfl) mEnum (pa_cons (pe_ix ix_tup (pv 0) pe_int (fun _ _ => rfl)) pa_nil))
      (blkOk_by (own := [("_law_at", 2), ("_law_pair", 3)]) (N := nLOuts) (sc := defScope sLIns) (by decide +kernel)) (fun _ _ _ _ _ => pg_tup rfl (pgs_cons (pg_name (i := 2) scLIns.nd rfl (Or.inl rfl)) (pgs_cons (pg_name (i := 3) scLIns.nd rfl (Or.inl rfl)) pgs_nil)))
      (fun _ _ _ _ _ => pts_one (pt_cmpR op_eq (pe_ix (ix_tupK (K := K) rfl) (pv 3) pe_int (fun _ _ => rfl)) (pv 1) (nomark _))) (fun _ _ _ _ _ => pv 2))), ?_⟩
    refine ⟨_, rfl, t, _, _, _, rfl, rfl, SqT.of ht, rfl, q, as, rfl, hq.sq, fun D hD => ?_⟩
    refine lc_it (walk_enT (K := K) (a := q) (xs := as)) (fun i H' => H' D = some (.lst (nums (idxs ((ps.take i).map (·.2)) r 0))) ∧ Same H H')
      ⟨upd_same, same_new (Same.refl H) hD⟩ (fun i H' _ ⟨_, s'⟩ => ((Same.kp s').f hq).sq) ?_ ?_
    · rintro i x H' H2 hi ⟨hD', s'⟩ ⟨T, x1, x2, rfl, hT, rfl, e1, e2⟩
      have e1 : V.int (i : Nat) = x1 := Option.some.inj e1
      subst e1
      obtain ⟨p, c, hp, rfl, hc⟩ := pairs_get hP e2
      have nDT : D ≠ T := ne_of_none hD' hT
      have hc2 : upd H' T (.tup [.int (i : Nat), .ref c]) c = some (.tup [.int p.1, .int p.2]) := by rw [upd_ne (ne_of_none (s' _ _ hc) hT)]; exact s' _ _ hc
      have hD2 : upd H' T (.tup [.int (i : Nat), .ref c]) D = some (.lst (nums (idxs ((ps.take i).map (·.2)) r 0))) := by rw [upd_ne nDT]; exact hD'
      have tl : ((ps.take i).map (·.2)).length = i := by
        have := (List.getElem?_eq_some_iff.mp hp).1
        rw [List.length_map, List.length_take]
        omega
      have et : (ps.take (i + 1)).map (·.2) = (ps.take i).map (·.2) ++ [p.2] := by
        rw [take_snoc hp, List.map_append]
        rfl
      refine ⟨T, _, rfl, SqT.of upd_same, rfl, _, _, rfl, _, _, rfl, rfl, rfl, _, rfl, c, _, _, _, rfl, rfl, SqT.of hc2, rfl, _, rfl, rfl, _, rfl, ?_⟩
      refine ite2 (fun e => ?_) (fun e => ?_)
      · have e' : p.2 = r := by
          have z := of_decide_eq_true e
          injection z with z
          omega
        refine ⟨_, rfl, _, hD2, ?_, ?_, same_put (same_new s' hT) hD⟩
        · have := idxs_len r ((ps.take i).map (·.2)) 0
          rw [sizeLine_eq]
          simp only [nums, List.length_map] at this ⊢
          have := List.length_take_le' i ps
          omega
        · rw [upd_same, et, idxs_snoc, if_pos e', tl, Nat.zero_add, nums_snoc]
      · have e' : ¬ p.2 = r := fun z => e (decide_eq_true (by rw [z]))
        refine ⟨?_, same_new s' hT⟩
        rw [et, idxs_snoc, if_neg e', List.append_nil]
        exact hD2
    · rintro H' ⟨hD', s'⟩
      rw [hl, List.take_length] at hD'
      exact k H' D s' hD hD'
theorem scLCount : FnScope ["_law_w", "_law_one", "_law_other"] ["_law_w", "_law_one", "_law_other"] (defScope sLCount) := ⟨rfl, rfl, rfl, by decide +kernel, rfl, by decide +kernel, by decide +kernel⟩
theorem ok_lcount {f : Addr} {fd : FuncData} (F : Fun K "_law_count" "_law_count" sLCount f fd) : FnOk P w K mg base CX0 1 f fd ["_law_w", "_law_one", "_law_other"] spLCount := by
  refine F.ok scLCount (fun vs H Q E h => ?_) (fun cdv A outer s H vs Q E hr h => ?_)
  · obtain ⟨t, n, ps, r, r2, rfl, _⟩ := h
    rfl
  · obtain ⟨t, n, ps, r, r2, rfl, ⟨q, as, ht, hq, hP, hG⟩, k⟩ := h
    refine ⟨_, pss_one (ps_ret (pe_tcount (hu65 hr) (pe_ix ix_tup (pv 0) pe_int (fun _ _ => rfl)) (pa_cons (pe_tup (pa_cons (pv 1) (pa_cons (pv 2) pa_nil))) pa_nil))), ?_⟩
    refine ⟨_, rfl, t, _, _, _, rfl, rfl, SqT.of ht, rfl, q, _, rfl, hq, _, rfl, _, rfl, by show 2 ≤ sizeLine; decide, fun U hU => ?_⟩
    exact ⟨q, _, .tuple [.int r, .int r2], ps.map pD, rfl, rfl, .tup ((Kp.new hU).f hq).sq (dp_pairs (PairsIn.kp (Kp.new hU) hP)), .tup (SqT.of upd_same) (.cons (.int _) (.cons (.int _) .nil)), pD_plain ps, rfl, (by show 1 ≤ 64; decide), k _ (same_new (Same.refl H) hU)⟩
theorem scNaming : FnScope ["_law_bag_here", "_law_w"] ["_law_bag_here", "_law_w"] (defScope sLNaming) := ⟨rfl, rfl, rfl, by decide +kernel, rfl, by decide +kernel, by decide +kernel⟩
theorem ok_naming {f fM : Addr} {fd fdM : FuncData} (F : Fun K "_law_naming" "_law_naming" sLNaming f fd) (GM : FnOk P w K mg base CX0 2 fM fdM ["_law_bag_here", "_law_some"] (spMixed K)) (bM : Binds K fdM ["_law_bag_here", "_law_some"] []) (mM : mg "_law_mixed" = some (.ref fM)) (kM : PySem.W.keepIn K (.ref fM) = true)
    (mRange : mg "range" = none) (mList : mg "list" = none) (mLen : mg "len" = none) : FnOk P w K mg base CX0 3 f fd ["_law_bag_here", "_law_w"] spNaming := by
  refine F.ok scNaming (fun vs H Q E h => ?_) (fun cdv A outer s H vs Q E hr h => ?_)
  · obtain ⟨b, l, ns, t, n, ps, rfl, _⟩ := h
    rfl
  · obtain ⟨b, l, ns, t, n, ps, rfl, B, W, hn, hp, k⟩ := h
    obtain ⟨q, as, ht, hq, hP, hG⟩ := id W
    have hl : as.length = ps.length := Paired.length hP
    refine ⟨_, pss_one (ps_ret (pe_tup (pa_cons (pe_call GM hr rfl mM kM bM .nil pass0 (pa_cons (pv 0) (pa_cons (pe_listRg rfl (by rfl) mList (prg_1 (by rfl) mRange (pe_ix ix_tup (pv 1) pe_int (fun _ _ => rfl)))) pa_nil)))
      (pa_cons (pe_call GM hr rfl mM kM bM .nil pass0 (pa_cons (pv 0) (pa_cons (pe_listRg rfl (by rfl) mList (prg_1 (by rfl) mRange (pe_callB call_len_seq (by rfl) mLen PySem.boot_len (pa_cons (pe_ix ix_tup (pv 1) pe_int (fun _ _ => rfl)) pa_nil)))) pa_nil))) pa_nil)))), ?_⟩
    refine ⟨_, rfl, _, rfl, t, _, _, _, rfl, rfl, SqT.of ht, rfl, _, rfl, RgOk.of_le (by decide) (by omega) (by decide) (by omega), fun d1 hd1 => ?_⟩
    have n1 : (rgV 0 (n : Int)).length ≤ 1000 := by rw [rgV_length]; omega
    refine ⟨b, l, d1, ns, _, rfl, B.new hd1, SqL.of upd_same, n1, fun H2 a1 ys1 G2 na1 ha1 pm1 B2 => ?_⟩
    obtain ⟨xb, hxb⟩ := (B.new (o := .lst (rgV 0 (n : Int))) hd1).list
    have k2 : Kp H H2 := (Kp.new hd1).trans (Kp.grow hxb G2)
    have ht2 := k2.t ht
    have hq2 := k2.f hq
    have G02 : Grow b H H2 := ((Grow.refl b H).new hd1).trans G2
    refine ⟨_, rfl, _, rfl, t, _, _, _, rfl, rfl, SqT.of ht2, rfl, q, _, rfl, .inr hq2.sq, _, rfl, RgOk.of_le (by decide) (by omega) (by decide) (by omega), fun d2 hd2 => ?_⟩
    have n2 : (rgV 0 ((as.length : Nat) : Int)).length ≤ 1000 := by rw [rgV_length]; omega
    refine ⟨b, l, d2, ns, _, rfl, B2.new hd2, SqL.of upd_same, n2, fun H3 a2 ys2 G3 na2 ha2 pm2 B3 => ⟨by show 2 ≤ sizeLine; decide, fun u hu => ?_⟩⟩
    rw [rg_nums] at pm1 pm2
    obtain ⟨rs, rfl, hrs⟩ := perm_nums pm1
    obtain ⟨is, rfl, his⟩ := perm_nums pm2
    have nb1 : a1 ≠ b := (B.nb ((by
      have z : H a1 = none := by
        cases q1 : H a1 with
        | none => rfl
        | some o =>
          rw [upd_ne (ne_of_none q1 hd1), q1] at na1
          cases na1
      exact z))).symm
    have ha1' : H3 a1 = some (.lst (nums rs)) := G3 a1 _ nb1 (by rw [upd_ne (ne_of_none ha1 hd2)]; exact ha1)
    rw [hl] at his
    have G03 : Grow b H H3 := G02.trans (((Grow.refl b H2).new hd2).trans G3)
    refine k _ u a1 a2 rs is (fun c o nc e => ?_) (B3.new hu) upd_same (by rw [upd_ne (ne_of_none ha1' hu)]; exact ha1') (by rw [upd_ne (ne_of_none ha2 hu)]; exact ha2) hrs his
    have e3 := G03 c o nc e
    rw [upd_ne (ne_of_none e3 hu)]
    exact e3
end
end KW
set_option Elab.async false
set_option maxRecDepth 100000
/-! The law's own: named. -/
namespace KW
open PySem PySem.Spec PyProof.Rows L2
theorem paired_set {α β : Type} {R : α → β → Prop} : ∀ {as : List α} {bs : List β} {a : α} {b : β} (j : Nat), Paired R as bs → R a b → Paired R (as.set j a) (bs.set j b)
  | _, _, _, _, _, .nil, _ => .nil
  | _, _, _, _, 0, .cons _ r, h => .cons h r
  | _, _, _, _, j + 1, .cons x r, h => .cons x (paired_set j r h)
theorem paired_rep {α β : Type} {R : α → β → Prop} {a : α} {b : β} (h : R a b) : ∀ m : Nat, Paired R (List.replicate m a) (List.replicate m b)
  | 0 => .nil
  | m + 1 => .cons h (paired_rep h m)
theorem flat_rep {α : Type} (a : α) : ∀ m : Nat, (List.replicate m [a]).flatten = List.replicate m a
  | 0 => rfl
  | m + 1 => by
    rw [List.replicate_succ, List.flatten_cons, flat_rep a m]
    rfl
theorem ixN_nat {n j : Nat} (h : j < n) : ixN n (j : Int) = some j := by
  unfold ixN
  rw [if_pos (by omega), if_pos (by omega)]
  rfl
theorem mem_set {α : Type} {l : List α} {j : Nat} {a x : α} (h : x ∈ l.set j a) : x ∈ l ∨ x = a := List.mem_or_eq_of_mem_set h
section
variable {P : Program} {w : World} {K : PySem.W.Frag} {mg : Str → Option Value} {base : Heap}
abbrev nNamed : List Str := ["_law_w", "_law_rooms", "_law_arrows", "_law_pairs", "_law_at", "_law_pair"]
theorem scNamed : FnScope nNamed ["_law_w", "_law_rooms", "_law_arrows"] (defScope sLNamed) := ⟨rfl, rfl, rfl, by decide +kernel, rfl, by decide +kernel, by decide +kernel⟩
theorem ok_named {f : Addr} {fd : FuncData} (F : Fun K "_law_named" "_law_named" sLNamed f fd) (mEnum : mg "enumerate" = none) (mLen : mg "len" = none) (mTuple : mg "tuple" = none) : FnOk P w K mg base CX0 1 f fd ["_law_w", "_law_rooms", "_law_arrows"] (spNamed K) := by
  refine F.ok scNamed (fun vs H Q E h => ?_) (fun cdv A outer s H vs Q E hr h => ?_)
  · obtain ⟨t, a1, a2, n, ps, rs, is, rfl, _⟩ := h
    rfl
  · obtain ⟨t, a1, a2, n, ps, rs, is, rfl, ⟨q, as, ht, hq, hP, hG⟩, hn, hp, h1, h2, hrs, his, k⟩ := h
    have hl : as.length = ps.length := Paired.length hP
    have rl : rs.length = n := by rw [hrs.length_eq, List.length_range]
    have il : is.length = ps.length := by rw [his.length_eq, List.length_range]
    have rsLt : ∀ {i x : Nat}, rs[i]? = some x → x < n := fun {i x} e => List.mem_range.mp (hrs.mem_iff.mp (List.mem_of_getElem? e))
    have isLt : ∀ {i x : Nat}, is[i]? = some x → x < ps.length := fun {i x} e => List.mem_range.mp (his.mem_iff.mp (List.mem_of_getElem? e))
    have isN : is.Nodup := his.nodup_iff.mpr List.nodup_range
    refine ⟨_, pss_cons (ps_set (i := 3) scNamed.nd rfl (Or.inl rfl) (pe_op op_rep (pe_lst (pa_cons (pe_tup (pa_cons pe_int (pa_cons pe_int pa_nil))) pa_nil)) (pe_callB call_len_seq (by rfl) mLen PySem.boot_len (pa_cons (pe_ix ix_tup (pv 0) pe_int (fun _ _ => rfl)) pa_nil))))
      (pss_cons (ps_for PassesOwn.never rfl (pi_enT (by rfl) mEnum (pa_cons (pe_ix ix_tup (pv 0) pe_int (fun _ _ => rfl)) pa_nil)) (pg_tup rfl (pgs_cons (pg_name (i := 4) scNamed.nd rfl (Or.inl rfl)) (pgs_cons (pg_name (i := 5) scNamed.nd rfl (Or.inl rfl)) pgs_nil)))
        (pss_one (ps_asg (pe_tup (pa_cons (pe_ix ix_list (pv 1) (pe_ix ix_tup (pv 5) pe_int (fun _ _ => rfl)) (fun _ _ => rfl)) (pa_cons (pe_ix ix_list (pv 1) (pe_ix ix_tup (pv 5) pe_int (fun _ _ => rfl)) (fun _ _ => rfl)) pa_nil)))
          (pg_sub (pv 3) (pe_ix ix_list (pv 2) (pv 4) (fun _ _ => rfl)) set_list))))
      (pss_one (ps_ret (pe_tup (pa_cons (pe_ix ix_tup (pv 0) pe_int (fun _ _ => rfl)) (pa_cons (pe_callTy call_tupleF (by rfl) mTuple (by decide +kernel) (pa_cons (pv 3) pa_nil)) pa_nil)))))), ?_⟩
    refine ⟨by show 2 ≤ sizeLine; decide, fun U hU => ⟨by show 1 ≤ sizeLine; decide, fun L hL => ?_⟩⟩
    have sU : Same H (upd H U (.tup [.int 0, .int 0])) := same_new (Same.refl H) hU
    have sL : Same H (upd (upd H U (.tup [.int 0, .int 0])) L (.lst [.ref U])) := same_new sU hL
    have hU2 : upd (upd H U (.tup [.int 0, .int 0])) L (.lst [.ref U]) U = some (.tup [.int 0, .int 0]) := by
      rw [upd_ne (ne_of_none upd_same hL), upd_same]
    refine ⟨_, rfl, t, _, _, _, rfl, rfl, SqT.of (sL _ _ ht), rfl, q, _, rfl, .inr ((Same.kp sL).f hq).sq, L, _, _, rfl, rfl, upd_same, by omega, by omega, ?_, fun D hD => ?_⟩
    · rw [sizeLine_eq]
      simp only [List.length_cons, List.length_nil]
      omega
    generalize hH1 : upd (upd H U (.tup [.int 0, .int 0])) L (.lst [.ref U]) = H1 at sL hU2 hD
    have fl : (List.replicate (((as.length : Nat) : Int)).toNat [V.ref U]).flatten = List.replicate ps.length (V.ref U) := by
      rw [flat_rep]
      congr 1
    rw [fl]
    have s1 : Same H (upd H1 D (.lst (List.replicate ps.length (V.ref U)))) := same_new sL hD
    refine ⟨_, rfl, t, _, _, _, rfl, rfl, SqT.of (s1 _ _ ht), rfl, q, as, rfl, ((Same.kp s1).f hq).sq, ?_⟩
    refine for_it (walk_enT (K := K) (a := q) (xs := as)) (fun i σ H' => ∃ (v1 v2 : Option V) (vs : List V) (qs : List (Nat × Nat)), σ = [some (.ref t), some (.ref a1), some (.ref a2), some (.ref D), v1, v2] ∧ H' D = some (.lst vs) ∧ PairsIn H' vs qs ∧ qs.length = ps.length ∧ (∀ p ∈ qs, p.1 < n ∧ p.2 < n) ∧
        (∀ j, j < i → ∀ a p, is[j]? = some a → ps[j]? = some p → ∃ x y, rs[p.1]? = some x ∧ rs[p.2]? = some y ∧ qs[a]? = some (x, y)) ∧ Same H H')
      ⟨none, none, _, List.replicate ps.length (0, 0), rfl, upd_same, paired_rep ⟨U, rfl, by rw [upd_ne (ne_of_none hU2 hD)]; exact hU2⟩ _, by rw [List.length_replicate], fun p hp' => ?_, fun j hj => absurd hj (by omega), s1⟩
      (fun i σ H' _ ⟨_, _, _, _, _, _, _, _, _, _, s'⟩ => ((Same.kp s').f hq).sq) ?_ ?_
    · have e := List.eq_of_mem_replicate hp'
      subst e
      exact ⟨hG.1, hG.1⟩
    · rintro i x σ H' H2 hi ⟨v1, v2, vs, qs, rfl, hV, hPq, ql, qb, qd, s'⟩ ⟨T, x1, x2, rfl, hT, rfl, e1, e2⟩
      have e1 : V.int (i : Nat) = x1 := Option.some.inj e1
      subst e1
      obtain ⟨p, c, hpi, rfl, hc⟩ := pairs_get hP e2
      have hpm := hG.2.1 p (List.mem_of_getElem? hpi)
      obtain ⟨x, hx⟩ : ∃ x, rs[p.1]? = some x := ⟨_, List.getElem?_eq_getElem (by omega)⟩
      obtain ⟨y, hy⟩ : ∃ y, rs[p.2]? = some y := ⟨_, List.getElem?_eq_getElem (by omega)⟩
      have hi' : i < ps.length := by omega
      obtain ⟨a, ha⟩ : ∃ a, is[i]? = some a := ⟨_, List.getElem?_eq_getElem (by omega)⟩
      have hal := isLt ha
      have s2 : Same H (upd H' T (.tup [.int (i : Nat), .ref c])) := same_new s' hT
      have vl : vs.length = qs.length := Paired.length hPq
      have hV2 : upd H' T (.tup [.int (i : Nat), .ref c]) D = some (.lst vs) := by rw [upd_ne (ne_of_none hV hT)]; exact hV
      refine ⟨T, _, rfl, SqT.of upd_same, rfl, _, _, rfl, _, _, rfl, rfl, ?_⟩
      have hPq2 : PairsIn (upd H' T (.tup [.int (i : Nat), .ref c])) vs qs := PairsIn.kp (Kp.new hT) hPq
      generalize upd H' T (.tup [.int (i : Nat), .ref c]) = H3 at s2 hV2 hPq2
      refine ⟨_, rfl, _, rfl, c, _, _, _, rfl, rfl, SqT.of (s2 _ _ hc), rfl, a1, _, _, _, rfl, rfl, SqL.of (s2 _ _ h1), atI_nat (nums_at hx), _, rfl, _, rfl, c, _, _, _, rfl, rfl, SqT.of (s2 _ _ hc), rfl, a1, _, _, _, rfl, rfl, SqL.of (s2 _ _ h1), atI_nat (nums_at hy), by show 2 ≤ sizeLine; decide, fun Z hZ => ?_⟩
      have s3 : Same H (upd H3 Z (.tup [.int (x : Nat), .int (y : Nat)])) := same_new s2 hZ
      have hV3 : upd H3 Z (.tup [.int (x : Nat), .int (y : Nat)]) D = some (.lst vs) := by rw [upd_ne (ne_of_none hV2 hZ)]; exact hV2
      refine ⟨_, rfl, _, rfl, _, rfl, a2, _, _, _, rfl, rfl, SqL.of (s3 _ _ h2), atI_nat (nums_at ha), D, vs, _, a, rfl, rfl, hV3, ixN_nat (by omega), ?_⟩
      refine ⟨_, _, vs.set a (.ref Z), qs.set a (x, y), rfl, upd_same, ?_, by rw [List.length_set]; exact ql, ?_, ?_, same_put s3 (sL.free hD)⟩
      · refine paired_set a (PairsIn.kp ((Kp.new hZ).trans (Kp.put hV3)) hPq2) ⟨Z, rfl, ?_⟩
        rw [upd_ne (ne_of_none hV2 hZ).symm, upd_same]
      · intro p' hp'
        rcases mem_set hp' with z | z
        · exact qb p' z
        · subst z
          exact ⟨rsLt hx, rsLt hy⟩
      · intro j hj b p' hb hp'
        by_cases e : j = i
        · subst e
          rw [ha] at hb
          cases hb
          rw [hpi] at hp'
          cases hp'
          exact ⟨x, y, hx, hy, List.getElem?_set_self (by omega)⟩
        · obtain ⟨x', y', g1, g2, g3⟩ := qd j (by omega) b p' hb hp'
          have nab : a ≠ b := fun z => by
            subst z
            exact e (nd_ix isN hb ha)
          exact ⟨x', y', g1, g2, by rw [List.getElem?_set_ne nab]; exact g3⟩
    · rintro σ H' ⟨v1, v2, vs, qs, rfl, hV, hPq, ql, qb, qd, s'⟩
      refine ⟨_, rfl, t, _, _, _, rfl, rfl, SqT.of (s' _ _ ht), rfl, _, rfl, D, vs, rfl, SqL.of hV, fun Z o hZ hd => ⟨by show 2 ≤ sizeLine; decide, fun u hu => ?_⟩⟩
      have nZu : Z ≠ u := ne_of_none upd_same hu
      refine k _ u qs (same_new (same_new s' hZ) hu) ⟨Z, vs, upd_same, ⟨o, by rw [upd_ne nZu, upd_same], hd⟩, PairsIn.kp ((Kp.new hZ).trans (Kp.new hu)) hPq, hG.1, qb, fun r hr' => ?_⟩ ql
      have hm : r ∈ rs := hrs.mem_iff.mpr (List.mem_range.mpr hr')
      obtain ⟨m, hmr⟩ := List.mem_iff_getElem?.mp hm
      have hmn : m < n := by
        have := (List.getElem?_eq_some_iff.mp hmr).1
        omega
      obtain ⟨p, hpm, ep⟩ := hG.2.2 m hmn
      obtain ⟨j, hj⟩ := List.mem_iff_getElem?.mp hpm
      have hjl := (List.getElem?_eq_some_iff.mp hj).1
      obtain ⟨a, ha⟩ : ∃ a, is[j]? = some a := ⟨_, List.getElem?_eq_getElem (by omega)⟩
      obtain ⟨x, y, g1, g2, g3⟩ := qd j (by omega) a p ha hj
      rw [ep, hmr] at g1
      cases g1
      exact ⟨_, List.mem_of_getElem? g3, rfl⟩
end
end KW
set_option Elab.async false
set_option maxRecDepth 100000
/-! The law's own: same. -/
namespace KW
open PySem PySem.Spec PyProof.Rows L2
abbrev sSame : Stmt := topS 21
mutual
theorem dp_same {K : PySem.W.Frag} {H H' : Hp} (s : Same H H') : ∀ (d : PyData) (v : V), Dp K H v d → Dp K H' v d
  | .none, _, h => by cases h; exact .non
  | .bool b, _, h => by cases h; exact .bl b
  | .int i, _, h => by cases h; exact .int i
  | .str x, _, h => by cases h; exact .str x
  | .list ds, _, h => by
    cases h with
    | lst hs ha => exact .lst (s.seq hs) (dpa_same s ds _ ha)
  | .tuple ds, _, h => by
    cases h with
    | tup hs ha =>
      refine .tup ?_ (dpa_same s ds _ ha)
      rcases hs with (h | ⟨o, h⟩) | h
      · exact .inl (.inl (s _ _ h))
      · exact .inl (.inr ⟨o, s _ _ h⟩)
      · exact .inr h
  | .dict _, _, h => by cases h
theorem dpa_same {K : PySem.W.Frag} {H H' : Hp} (s : Same H H') : ∀ (ds : List PyData) (vs : List V), DpAll K H vs ds → DpAll K H' vs ds
  | [], _, h => by cases h; exact .nil
  | d :: ds, _, h => by
    cases h with
    | cons h1 h2 => exact .cons (dp_same s d _ h1) (dpa_same s ds _ h2)
end
theorem dpa_len {K : PySem.W.Frag} {H : Hp} : ∀ {ds : List PyData} {vs : List V}, DpAll K H vs ds → vs.length = ds.length
  | [], _, h => by cases h; rfl
  | d :: ds, _, h => by
    cases h with
    | cons h1 h2 => rw [List.length_cons, List.length_cons, dpa_len h2]
theorem dpa_at {K : PySem.W.Frag} {H : Hp} : ∀ {ds : List PyData} {vs : List V} {i : Nat} {v : V}, DpAll K H vs ds → vs[i]? = some v → ∃ d, ds[i]? = some d ∧ Dp K H v d
  | [], _, _, _, h, e => by cases h; simp at e
  | d :: ds, _, i, v, h, e => by
    cases h with
    | cons h1 h2 =>
      cases i with
      | zero =>
        simp at e
        subst e
        exact ⟨d, rfl, h1⟩
      | succ i =>
        obtain ⟨d', g1, g2⟩ := dpa_at (i := i) h2 (by simpa using e)
        exact ⟨d', by simpa using g1, g2⟩
theorem ty_list {K : PySem.W.Frag} {H : Hp} {a : Addr} {xs : List V} (h : SqL K H a xs) : TyX K H (.ref a) (.type "list") := by
  rcases h with (h | ⟨o, h⟩) | ⟨o, its, n, h1, h2, _⟩
  · exact .base (.lst h)
  · exact .base (.frz h)
  · exact .kList h1 h2
theorem ty_tup {K : PySem.W.Frag} {H : Hp} {a : Addr} {xs : List V} (h : SqT K H a xs) : TyX K H (.ref a) (.type "tuple") := by
  rcases h with (h | ⟨o, h⟩) | ⟨o, its, n, h1, h2, _⟩
  · exact .base (.tup h)
  · exact .fTuple h
  · exact .kTuple h1 h2
/-- ints, lists and tuples of such, at most k deep -/
def okT : Nat → PyData → Prop
  | 0, d => ∃ i, d = .int i
  | k + 1, d => (∃ i, d = .int i) ∨ ∃ ds, (d = .list ds ∨ d = .tuple ds) ∧ ds.length ≤ 1000 ∧ ∀ x ∈ ds, okT k x
def spSame (K : PySem.W.Frag) (k : Nat) : Sp := fun vs H Q _ => ∃ (x y : V) (d : PyData), vs = [x, y] ∧ Dp K H x d ∧ Dp K H y d ∧ okT k d ∧ ∀ H' : Hp, Same H H' → Q (.bl true) H'
theorem walk_zipT {K : PySem.W.Frag} {a b : Addr} {xs ys : List V} (hn : xs.length = ys.length) : Walk (RZ.ItzT K a b) xs.length (fun H => SqT K H a xs ∧ SqT K H b ys) (YPair (fun i => xs[i]?) (fun i => ys[i]?)) := by
  refine ⟨fun i _ hi q => ?_, fun _ q => ⟨xs, ys, q.1, q.2, .inl (Nat.le_refl _)⟩, fun i H v H' _ q y => ?_⟩
  · have h2 : i < ys.length := by omega
    exact ⟨xs, ys, xs[i], ys[i], q.1, q.2, by simp [hi], by simp [h2]⟩
  · obtain ⟨T, x, z, h1, h2, h3, h4, h5⟩ := y
    exact ⟨T, x, z, h1, h2, h3, h4 xs q.1, h5 ys q.2⟩
structure SameM (mg : Str → Option Value) : Prop where
  isi : mg "isinstance" = none
  lst : mg "list" = none
  tup : mg "tuple" = none
  len : mg "len" = none
  all : mg "all" = none
  zip : mg "zip" = none
  bool : mg "bool" = none
  int : mg "int" = none
  str : mg "str" = none
theorem boot_isi : bootBuiltins "isinstance" = some (.builtin "isinstance") := by decide +kernel
theorem boot_all' : bootBuiltins "all" = some (.builtin "all") := by decide +kernel
theorem boot_bool' : bootBuiltins "bool" = some (.type "bool") := by decide +kernel
theorem boot_int' : bootBuiltins "int" = some (.type "int") := by decide +kernel
theorem boot_str' : bootBuiltins "str" = some (.type "str") := by decide +kernel
theorem same_kp {H H1 : Hp} {v : V} {d : PyData} {K : PySem.W.Frag} (s : Same H H1) (h : Dp K H v d) : Dp K H1 v d := dp_same s d v h
section
variable {P : Program} {w : World} {K : PySem.W.Frag} {mg : Str → Option Value} {base : Heap}
abbrev nSame : List Str := ["_law_found", "_law_due", "_law_a", "_law_b"]
theorem scSame : FnScope nSame ["_law_found", "_law_due"] (defScope sSame) := ⟨rfl, rfl, rfl, by decide +kernel, rfl, by decide +kernel, by decide +kernel⟩
theorem same_len {K : PySem.W.Frag} {k : Nat} : ∀ vs H Q E, spSame K k vs H Q E → vs.length = ["_law_found", "_law_due"].length := fun vs H Q E h => by
  obtain ⟨x, y, d, rfl, _⟩ := h
  rfl
/-- two equal ints -/
theorem same_int {f : Addr} (M : SameM mg) (cdv : Value) (A : Around) (outer : List Env) (s : Shared) (H : Hp) (Q : VK) (E : XK) (i : Int) (k : ∀ H' : Hp, Same H H' → Q (.bl true) H') :
    ∃ t, PSs (cxOf CX0 P w K mg base nSame "_law_same" (defScope sSame) f cdv A outer s H E).nox (defBody sSame) t ∧ t { nx := fun _ H' => Q .non H', rt := Q } (L2.start nSame [.int i, .int i]) H := by
  refine ⟨_, pss_cons (ps_if (pt_val (pe_callB call_isiT (by rfl) M.isi boot_isi (pa_cons (pv 1) (pa_cons (pe_tup (pa_cons (pe_bltn (v := .ty "list") (by rfl) M.lst boot_list' rfl) (pa_cons (pe_bltn (v := .ty "tuple") (by rfl) M.tup boot_tuple' rfl) pa_nil))) pa_nil)))) pss_never pss_nil)
    (pss_cons (ps_if (PW.pt (pw_or (pt_cmpR op_isN (pv 1) pe_non (nomark _)) (pw_or1 (pt_cmpR op_isN (pv 0) pe_non (nomark _))))) pss_never pss_nil)
    (pss_cons (ps_if (PW.pt (pw_or (pt_cmpR op_ne (pe_callB call_isi (by rfl) M.isi boot_isi (pa_cons (pv 0) (pa_cons (pe_bltn (v := .ty "bool") (by rfl) M.bool boot_bool' rfl) pa_nil))) (pe_callB call_isi (by rfl) M.isi boot_isi (pa_cons (pv 1) (pa_cons (pe_bltn (v := .ty "bool") (by rfl) M.bool boot_bool' rfl) pa_nil))) (nomark _))
      (pw_or1 (pt_cmpR op_ne (pe_callB call_isi (by rfl) M.isi boot_isi (pa_cons (pv 0) (pa_cons (pe_bltn (v := .ty "int") (by rfl) M.int boot_int' rfl) pa_nil))) (pe_callB call_isi (by rfl) M.isi boot_isi (pa_cons (pv 1) (pa_cons (pe_bltn (v := .ty "int") (by rfl) M.int boot_int' rfl) pa_nil))) (nomark _))))) pss_never pss_nil)
    (pss_one (ps_ret (pe_and (pe_cmpR op_eq (pe_callB call_isi (by rfl) M.isi boot_isi (pa_cons (pv 0) (pa_cons (pe_bltn (v := .ty "str") (by rfl) M.str boot_str' rfl) pa_nil))) (pe_callB call_isi (by rfl) M.isi boot_isi (pa_cons (pv 1) (pa_cons (pe_bltn (v := .ty "str") (by rfl) M.str boot_str' rfl) pa_nil))) (nomark _))
      (pe_one (pe_cmpR op_eq (pv 0) (pv 1) (nomark _)))))))), ?_⟩
  refine ⟨_, rfl, by show 2 ≤ sizeLine; decide, fun T hT => ?_⟩
  have s1 : Same H (upd H T (.tup [.ty "list", .ty "tuple"])) := same_new (Same.refl H) hT
  generalize hH1 : upd H T (.tup [.ty "list", .ty "tuple"]) = H1 at s1
  have hT1 : H1 T = some (.tup [.ty "list", .ty "tuple"]) := by rw [← hH1]; exact upd_same
  have ty : TyX K H1 (.int i) (.type "int") := .base (.int i)
  have k1 : PySem.W.kitOne K (.type "int") (.type "list") = some false := kit_ty (by decide +kernel)
  have k2 : PySem.W.kitOne K (.type "int") (.type "tuple") = some false := kit_ty (by decide +kernel)
  have kb : PySem.W.kitOne K (.type "int") (.type "bool") = some false := kit_ty (by decide +kernel)
  have ki : PySem.W.kitOne K (.type "int") (.type "int") = some true := kit_ty (by decide +kernel)
  have ks : PySem.W.kitOne K (.type "int") (.type "str") = some false := kit_ty (by decide +kernel)
  refine ⟨.int i, T, [.ty "list", .ty "tuple"], .type "int", [.type "list", .type "tuple"], false, rfl, hT1, .cons (.ty _) (.cons (.ty _) .nil), ty, kitAny_cons k1 (fun _ => kitAny_cons k2 (fun _ => kitAny_nil) (fun z => nomatch z)) (fun z => nomatch z), false, rfl, iteF ?_⟩
  refine ⟨_, rfl, rfl, _, rfl, iteF ⟨_, rfl, rfl, _, rfl, iteF ?_⟩⟩
  refine ⟨_, rfl, .int i, .ty "bool", .type "int", .type "bool", false, rfl, .ty _, ty, kb, _, rfl, .int i, .ty "bool", .type "int", .type "bool", false, rfl, .ty _, ty, kb, rfl, _, rfl, iteF ?_⟩
  refine ⟨_, rfl, .int i, .ty "int", .type "int", .type "int", true, rfl, .ty _, ty, ki, _, rfl, .int i, .ty "int", .type "int", .type "int", true, rfl, .ty _, ty, ki, rfl, _, rfl, iteF ?_⟩
  refine ⟨_, rfl, .int i, .ty "str", .type "int", .type "str", false, rfl, .ty _, ty, ks, _, rfl, .int i, .ty "str", .type "int", .type "str", false, rfl, .ty _, ty, ks, rfl, true, rfl, iteT ?_⟩
  refine ⟨_, rfl, _, rfl, rfl, ?_⟩
  have e : decide (V.int i = V.int i) = true := decide_eq_true rfl
  rw [e]
  exact k H1 s1
theorem ok_same {f : Addr} {fd : FuncData} (F : Fun K "_law_same" "_law_same" sSame f fd) (M : SameM mg) (bS : Binds K fd ["_law_found", "_law_due"] []) (mS : mg "_law_same" = some (.ref f)) (kS : PySem.W.keepIn K (.ref f) = true) : ∀ k : Nat, FnOk P w K mg base CX0 (k + 1) f fd ["_law_found", "_law_due"] (spSame K k)
  | 0 => by
    refine F.ok scSame same_len (fun cdv A outer s H vs Q E hr h => ?_)
    obtain ⟨x, y, d, rfl, hx, hy, ⟨i, rfl⟩, kk⟩ := h
    cases hx
    cases hy
    exact same_int M cdv A outer s H Q E i kk
  | k + 1 => by
    have GS : FnOk P w K mg base CX0 (k + 1) f fd ["_law_found", "_law_due"] (spSame K k) := ok_same F M bS mS kS k
    refine F.ok scSame same_len (fun cdv A outer s H vs Q E hr h => ?_)
    obtain ⟨x, y, d, rfl, hx, hy, hd, kk⟩ := h
    rcases hd with ⟨i, rfl⟩ | ⟨ds, hd, hl, hok⟩
    · cases hx
      cases hy
      exact same_int M cdv A outer s H Q E i kk
    · refine ⟨_, pss_cons (ps_if (pt_val (pe_callB call_isiT (by rfl) M.isi boot_isi (pa_cons (pv 1) (pa_cons (pe_tup (pa_cons (pe_bltn (v := .ty "list") (by rfl) M.lst boot_list' rfl) (pa_cons (pe_bltn (v := .ty "tuple") (by rfl) M.tup boot_tuple' rfl) pa_nil))) pa_nil))))
        (pss_cons (ps_if (PW.pt (pw_or (pt_cmpR op_ne (pe_callB call_isi (by rfl) M.isi boot_isi (pa_cons (pv 0) (pa_cons (pe_bltn (v := .ty "list") (by rfl) M.lst boot_list' rfl) pa_nil))) (pe_callB call_isi (by rfl) M.isi boot_isi (pa_cons (pv 1) (pa_cons (pe_bltn (v := .ty "list") (by rfl) M.lst boot_list' rfl) pa_nil))) (nomark _))
          (pw_or1 (pt_cmpR op_ne (pe_callB call_isi (by rfl) M.isi boot_isi (pa_cons (pv 0) (pa_cons (pe_bltn (v := .ty "tuple") (by rfl) M.tup boot_tuple' rfl) pa_nil))) (pe_callB call_isi (by rfl) M.isi boot_isi (pa_cons (pv 1) (pa_cons (pe_bltn (v := .ty "tuple") (by rfl) M.tup boot_tuple' rfl) pa_nil))) (nomark _))))) pss_never pss_nil)
        (pss_one (ps_ret (pe_and (pe_cmpR op_eq (pe_callB call_len_seq (by rfl) M.len PySem.boot_len (pa_cons (pv 0) pa_nil)) (pe_callB call_len_seq (by rfl) M.len PySem.boot_len (pa_cons (pv 1) pa_nil)) (nomark _))
          (pe_one (pe_callB (cr_all rfl) (by rfl) M.all boot_all' (pa_cons
            (pe_lc (own := [("_law_a", 2), ("_law_b", 3)]) (g := gTup K 2 (gCons (gName 2) (gCons (gName 3) gNil))) (tt := tYes) rfl scSame.nd (RZ.pi_zipA (by rfl) M.zip (pa_cons (pv 0) (pa_cons (pv 1) pa_nil)))
              (blkOk_by (own := [("_law_a", 2), ("_law_b", 3)]) (N := nSame) (sc := defScope sSame) (by decide +kernel)) (fun _ _ _ _ _ => pg_tup rfl (pgs_cons (pg_name (i := 2) scSame.nd rfl (Or.inl rfl)) (pgs_cons (pg_name (i := 3) scSame.nd rfl (Or.inl rfl)) pgs_nil)))
              (fun _ _ _ _ _ => pts_nil) (fun _ _ _ _ _ => pe_call GS hr rfl mS kS bS .nil pass0 (pa_cons (pv 2) (pa_cons (pv 3) pa_nil)))) pa_nil))))))) pss_nil) pss_never, ?_⟩
      refine ⟨_, rfl, by show 2 ≤ sizeLine; decide, fun T hT => ?_⟩
      have s1 : Same H (upd H T (.tup [.ty "list", .ty "tuple"])) := same_new (Same.refl H) hT
      generalize hH1 : upd H T (.tup [.ty "list", .ty "tuple"]) = H1 at s1
      have hT1 : H1 T = some (.tup [.ty "list", .ty "tuple"]) := by rw [← hH1]; exact upd_same
      have hx1 := dp_same s1 _ _ hx
      have hy1 := dp_same s1 _ _ hy
      have kll : PySem.W.kitOne K (.type "list") (.type "list") = some true := kit_ty (by decide +kernel)
      have klt : PySem.W.kitOne K (.type "list") (.type "tuple") = some false := kit_ty (by decide +kernel)
      have ktl : PySem.W.kitOne K (.type "tuple") (.type "list") = some false := kit_ty (by decide +kernel)
      have ktt : PySem.W.kitOne K (.type "tuple") (.type "tuple") = some true := kit_ty (by decide +kernel)
      have turn : ∀ {D : Addr} {xs ys : List V} {i : Nat} {x y : V} {H' H2 : Hp} {TT : Addr}, H1 D = none → DpAll K H1 xs ds → DpAll K H1 ys ds → xs[i]? = some x → ys[i]? = some y → Same H1 H2 → (∀ z, z ∈ ds → okT k z) →
          ∃ d, Dp K H2 x d ∧ Dp K H2 y d ∧ okT k d := fun {D xs ys i x y H' H2 TT} _ h1 h2 e1 e2 s2 ho => by
        obtain ⟨d1, g1, g2⟩ := dpa_at h1 e1
        obtain ⟨d2, g3, g4⟩ := dpa_at h2 e2
        rw [g1] at g3
        cases g3
        exact ⟨d1, dp_same s2 _ _ g2, dp_same s2 _ _ g4, ho d1 (List.mem_of_getElem? g1)⟩
      have allT : ∀ bs : List Bool, (∀ b ∈ bs, b = true) → bs.all id = true := fun bs hb => List.all_eq_true.mpr hb
      rcases hd with rfl | rfl
      · cases hx1 with
        | @lst a xs _ sx ax =>
          cases hy1 with
          | @lst b ys _ sy ay =>
            have lx := dpa_len ax
            have ly := dpa_len ay
            refine ⟨.ref b, T, [.ty "list", .ty "tuple"], .type "list", [.type "list", .type "tuple"], true, rfl, hT1, .cons (.ty _) (.cons (.ty _) .nil), ty_list sy, kitAny_cons kll (fun z => nomatch z) (fun _ => rfl), true, rfl, iteT ?_⟩
            refine ⟨_, rfl, .ref a, .ty "list", .type "list", .type "list", true, rfl, .ty _, ty_list sx, kll, _, rfl, .ref b, .ty "list", .type "list", .type "list", true, rfl, .ty _, ty_list sy, kll, rfl, _, rfl, iteF ?_⟩
            refine ⟨_, rfl, .ref a, .ty "tuple", .type "list", .type "tuple", false, rfl, .ty _, ty_list sx, klt, _, rfl, .ref b, .ty "tuple", .type "list", .type "tuple", false, rfl, .ty _, ty_list sy, klt, rfl, _, rfl, iteF ?_⟩
            have el : decide (V.int ((xs.length : Nat) : Int) = V.int ((ys.length : Nat) : Int)) = true := decide_eq_true (by rw [lx, ly])
            refine ⟨_, rfl, a, _, rfl, .inl sx, _, rfl, b, _, rfl, .inl sy, rfl, true, congrArg V.bl el, iteT ?_⟩
            refine ⟨_, rfl, _, rfl, a, b, xs, ys, rfl, .inl ⟨sx, sy, fun D hD => ?_⟩⟩
            refine lc_it (walk_zip (K := K) (a := a) (b := b) (xs := xs) (ys := ys) rfl) (fun i H' => ∃ bs : List Bool, H' D = some (.lst (bs.map V.bl)) ∧ bs.length = i ∧ (∀ z ∈ bs, z = true) ∧ Same H1 H')
              ⟨[], upd_same, rfl, fun z hz => absurd hz (by simp), same_new (Same.refl H1) hD⟩ (fun i H' _ ⟨_, _, _, _, s'⟩ => ⟨s'.seq sx, s'.seq sy⟩) ?_ ?_
            · rintro i v H' H2 hi ⟨bs, hB, bl, hb, s'⟩ ⟨U, x1, y1, rfl, hU, rfl, e1, e2⟩
              have s2 : Same H1 (upd H' U (.tup [x1, y1])) := same_new s' hU
              obtain ⟨d1, g1, g2, g3⟩ := turn (H' := H') (TT := U) hD ax ay e1 e2 s2 hok
              have hB2 : upd H' U (.tup [x1, y1]) D = some (.lst (bs.map V.bl)) := by rw [upd_ne (ne_of_none hB hU)]; exact hB
              refine ⟨U, _, rfl, SqT.of upd_same, rfl, _, _, rfl, _, _, rfl, rfl, rfl, _, rfl, _, rfl, x1, y1, d1, rfl, g1, g2, g3, fun H3 s3 => ?_⟩
              refine ⟨_, s3 _ _ hB2, by rw [List.length_map, sizeLine_eq]; omega, bs ++ [true], by rw [upd_same, List.map_append]; rfl, by rw [List.length_append, bl]; rfl, fun z hz => ?_, same_put (s2.trans s3) hD⟩
              rcases List.mem_append.mp hz with q | q
              · exact hb z q
              · simpa using q
            · rintro H' ⟨bs, hB, bl, hb, s'⟩
              refine ⟨D, bs, rfl, SqL.of hB, ?_⟩
              rw [allT bs hb]
              exact kk H' (s1.trans s')
      · cases hx1 with
        | @tup a xs _ sx ax =>
          cases hy1 with
          | @tup b ys _ sy ay =>
            have lx := dpa_len ax
            have ly := dpa_len ay
            have st : ∀ {H' : Hp} {c : Addr} {zs : List V}, Same H1 H' → SqT K H1 c zs → SqT K H' c zs := fun {H' c zs} s' h => by
              rcases h with (h | ⟨o, h⟩) | h
              · exact .inl (.inl (s' _ _ h))
              · exact .inl (.inr ⟨o, s' _ _ h⟩)
              · exact .inr h
            refine ⟨.ref b, T, [.ty "list", .ty "tuple"], .type "tuple", [.type "list", .type "tuple"], true, rfl, hT1, .cons (.ty _) (.cons (.ty _) .nil), ty_tup sy, kitAny_cons ktl (fun _ => kitAny_cons ktt (fun z => nomatch z) (fun _ => rfl)) (fun z => nomatch z), true, rfl, iteT ?_⟩
            refine ⟨_, rfl, .ref a, .ty "list", .type "tuple", .type "list", false, rfl, .ty _, ty_tup sx, ktl, _, rfl, .ref b, .ty "list", .type "tuple", .type "list", false, rfl, .ty _, ty_tup sy, ktl, rfl, _, rfl, iteF ?_⟩
            refine ⟨_, rfl, .ref a, .ty "tuple", .type "tuple", .type "tuple", true, rfl, .ty _, ty_tup sx, ktt, _, rfl, .ref b, .ty "tuple", .type "tuple", .type "tuple", true, rfl, .ty _, ty_tup sy, ktt, rfl, _, rfl, iteF ?_⟩
            have el : decide (V.int ((xs.length : Nat) : Int) = V.int ((ys.length : Nat) : Int)) = true := decide_eq_true (by rw [lx, ly])
            refine ⟨_, rfl, a, _, rfl, .inr sx, _, rfl, b, _, rfl, .inr sy, rfl, true, congrArg V.bl el, iteT ?_⟩
            refine ⟨_, rfl, _, rfl, a, b, xs, ys, rfl, .inr ⟨sx, sy, fun D hD => ?_⟩⟩
            refine lc_it (walk_zipT (K := K) (a := a) (b := b) (xs := xs) (ys := ys) (by omega)) (fun i H' => ∃ bs : List Bool, H' D = some (.lst (bs.map V.bl)) ∧ bs.length = i ∧ (∀ z ∈ bs, z = true) ∧ Same H1 H')
              ⟨[], upd_same, rfl, fun z hz => absurd hz (by simp), same_new (Same.refl H1) hD⟩ (fun i H' _ ⟨_, _, _, _, s'⟩ => ⟨st s' sx, st s' sy⟩) ?_ ?_
            · rintro i v H' H2 hi ⟨bs, hB, bl, hb, s'⟩ ⟨U, x1, y1, rfl, hU, rfl, e1, e2⟩
              have s2 : Same H1 (upd H' U (.tup [x1, y1])) := same_new s' hU
              obtain ⟨d1, g1, g2, g3⟩ := turn (H' := H') (TT := U) hD ax ay e1 e2 s2 hok
              have hB2 : upd H' U (.tup [x1, y1]) D = some (.lst (bs.map V.bl)) := by rw [upd_ne (ne_of_none hB hU)]; exact hB
              refine ⟨U, _, rfl, SqT.of upd_same, rfl, _, _, rfl, _, _, rfl, rfl, rfl, _, rfl, _, rfl, x1, y1, d1, rfl, g1, g2, g3, fun H3 s3 => ?_⟩
              refine ⟨_, s3 _ _ hB2, by rw [List.length_map, sizeLine_eq]; omega, bs ++ [true], by rw [upd_same, List.map_append]; rfl, by rw [List.length_append, bl]; rfl, fun z hz => ?_, same_put (s2.trans s3) hD⟩
              rcases List.mem_append.mp hz with q | q
              · exact hb z q
              · simpa using q
            · rintro H' ⟨bs, hB, bl, hb, s'⟩
              refine ⟨D, bs, rfl, SqL.of hB, ?_⟩
              rw [allT bs hb]
              exact kk H' (s1.trans s')
end
end KW
set_option Elab.async false
set_option maxRecDepth 100000
set_option maxHeartbeats 4000000
/-! The law. -/
namespace KW
open PySem PySem.Spec PyProof.Rows L2
abbrev sLaw : Stmt := topS 30
abbrev nLaw : List Str := ["_law_script", "_law_bag_here", "_law_turn", "_law_w", "_law_pair", "_law_handed", "_law_web_here", "_law_again_z", "_law_some", "_law_room", "_law_outs_here", "_law_ins_here", "_law_counts", "_law_at", "_law_rooms", "_law_arrows", "_law_other", "_law_one"]
theorem scLaw : FnScope nLaw ["_law_script"] (defScope sLaw) := ⟨rfl, rfl, rfl, by decide +kernel, rfl, by decide +kernel, by decide +kernel⟩
/-! ### what stays through a turn -/
structure Core (C b l t x : Addr) (ns : List Int) (n : Nat) (ps : List (Nat × Nat)) (H : Hp) : Prop where
  bag : BagAt b l ns H
  wt : WebT H t n ps
  wa : WebAt C H x n ps
theorem WebAt.up {C : Addr} {H H' : Hp} {x : Addr} {n : Nat} {ps : List (Nat × Nat)} (k : Kp H H') (hx : ∀ o, H x = some o → H' x = some o) (h : WebAt C H x n ps) : WebAt C H' x n ps := by
  obtain ⟨dx, q, lv, en, as, ls, es, h1, h2⟩ := id h
  exact h.to k ((hx _ h1).trans h1.symm)
section
variable {C b l t x : Addr} {ns : List Int} {n : Nat} {ps : List (Nat × Nat)} {H H' : Hp}
theorem WebAt.ins (h : WebAt C H x n ps) : ∃ dx fs, H x = some (.ins C dx fs) := by
  obtain ⟨dx, q, lv, en, as, ls, es, h1, _⟩ := h
  exact ⟨dx, _, h1⟩
theorem BagAt.same (B : BagAt b l ns H) (s : Same H H') : BagAt b l ns H' := by
  obtain ⟨⟨i, r, sd, c, h, hi⟩, hl, nbl⟩ := B
  exact ⟨⟨i, r, sd, c, s _ _ h, hi⟩, s _ _ hl, nbl⟩
theorem Core.same (c : Core C b l t x ns n ps H) (s : Same H H') : Core C b l t x ns n ps H' :=
  ⟨c.bag.same s, c.wt.kp (Same.kp s), c.wa.up (Same.kp s) fun o h => s _ _ h⟩
theorem Core.grow (c : Core C b l t x ns n ps H) (g : Grow b H H') (B : BagAt b l ns H') : Core C b l t x ns n ps H' := by
  obtain ⟨xs, hb⟩ := c.bag.list
  obtain ⟨dx, fs, hx⟩ := c.wa.ins
  exact ⟨B, c.wt.kp (Kp.grow hb g), c.wa.up (Kp.grow hb g) fun o h => g _ _ (ne_of hx hb (by intro z; cases z)) h⟩
theorem Core.put (c : Core C b l t x ns n ps H) {p : Addr} {xs : List V} {o : HO} (hp : H p = some (.lst xs)) (n1 : b ≠ p) (n2 : l ≠ p) : Core C b l t x ns n ps (upd H p o) := by
  obtain ⟨dx, fs, hx⟩ := c.wa.ins
  exact ⟨c.bag.other n1 n2, c.wt.kp (Kp.put hp), c.wa.up (Kp.put hp) fun u h => by rw [upd_ne (ne_of hx hp (by intro z; cases z))]; exact h⟩
theorem Core.nb (c : Core C b l t x ns n ps H) {p : Addr} (h : H p = none) : b ≠ p := c.bag.nb h
theorem Core.nl (c : Core C b l t x ns n ps H) {p : Addr} (h : H p = none) : l ≠ p := c.bag.nl h
end
/-- the slots of the law through a turn -/
def LS (a b t x : Addr) (σ : L2.St) : Prop := ∃ v2 v4 v5 v7 v8 v9 v10 v11 v12 v13 v14 v15 v16 : Option V, σ = [some (.ref a), some (.ref b), v2, some (.ref t), v4, v5, some (.ref x), v7, v8, v9, v10, v11, v12, v13, v14, v15, v16, none]
/-- an item that is handed: a list of its own, or the pair itself -/
def HandV (b l D : Addr) (H : Hp) (v : V) (p : Nat × Nat) : Prop := (∃ c, v = .ref c ∧ H c = some (.lst [.int p.1, .int p.2]) ∧ b ≠ c ∧ l ≠ c ∧ D ≠ c) ∨ IsP H v p
theorem HandV.loose {K : PySem.W.Frag} {b l D : Addr} {H : Hp} : ∀ {vs : List V} {ps : List (Nat × Nat)}, Paired (HandV b l D H) vs ps → Paired (PairL K H) vs ps
  | _, _, .nil => .nil
  | _, _, .cons h r => by
    refine .cons ?_ (HandV.loose r)
    rcases h with ⟨c, e, h, _⟩ | ⟨c, e, h⟩
    · exact ⟨c, e, .inl (SqL.of h)⟩
    · exact ⟨c, e, .inr (SqT.of h)⟩
theorem HandV.to {b l D : Addr} {H H' : Hp} (k : Kp H H') (g : ∀ c o, b ≠ c → D ≠ c → H c = some o → H' c = some o) : ∀ {vs : List V} {ps : List (Nat × Nat)}, Paired (HandV b l D H) vs ps → Paired (HandV b l D H') vs ps
  | _, _, .nil => .nil
  | _, _, .cons h r => by
    refine .cons ?_ (HandV.to k g r)
    rcases h with ⟨c, e, h, n1, n2, n3⟩ | h
    · exact .inl ⟨c, e, g _ _ n1 n3 h, n1, n2, n3⟩
    · exact .inr (h.kp k)
/-- a list or a tuple -/
def LstV (b l : Addr) (m : Nat) (H : Hp) (v : V) : Prop := (∃ c xs, v = .ref c ∧ H c = some (.lst xs) ∧ xs.length ≤ m ∧ b ≠ c ∧ l ≠ c) ∨ ∃ c xs, v = .ref c ∧ H c = some (.tup xs)
def rIsiAt := rIsi
theorem call_isiAt {X : Cx} {K : PySem.W.Frag} (h : X.K = K) : CallR X (.builtin "isinstance") (rIsi K) := by
  subst h
  exact call_isi
def spLaw (K : PySem.W.Frag) : Sp := fun vs H Q _ => ∃ (a : Addr) (ns : List Int), vs = [.ref a] ∧ SqL K H a (ns.map V.int) ∧ ∀ H', Q (.bl true) H'
theorem dp_nums' {K : PySem.W.Frag} {H : Hp} {a : Addr} {l : List Nat} (h : H a = some (.lst (nums l))) : Dp K H (.ref a) (.list (l.map nD)) := .lst (SqL.of h) (dp_nums l)
theorem okT_nums {k : Nat} (l : List Nat) (h : l.length ≤ 1000) : okT (k + 1) (.list (l.map nD)) := .inr ⟨_, .inl rfl, by rw [List.length_map]; exact h, fun z hz => by
  obtain ⟨i, _, e⟩ := List.mem_map.mp hz
  subst e
  cases k with
  | zero => exact ⟨_, rfl⟩
  | succ k => exact .inl ⟨_, rfl⟩⟩
theorem okT_int {k : Nat} (i : Int) : okT k (.int i) := by
  cases k with
  | zero => exact ⟨_, rfl⟩
  | succ k => exact .inl ⟨_, rfl⟩
theorem okT_pairs (ps : List (Nat × Nat)) (h : ps.length ≤ 1000) : okT 2 (.list (ps.map pD)) := .inr ⟨_, .inl rfl, by rw [List.length_map]; exact h, fun z hz => by
  obtain ⟨p, _, e⟩ := List.mem_map.mp hz
  subst e
  refine .inr ⟨_, .inr rfl, (by show 2 ≤ 1000; decide), fun y hy => ?_⟩
  rcases List.mem_cons.mp hy with e | hy
  · subst e; exact okT_int _
  · rcases List.mem_cons.mp hy with e | hy
    · subst e; exact okT_int _
    · cases hy⟩
structure Defs (P : Program) (w : World) (K : PySem.W.Frag) (mg : Str → Option Value) (base : Heap) (C : Addr) : Prop where
  T : WebC K C
  TQ : WebQ K C
  mC : mg "Web" = some (.ref C)
  M : SameM mg
  range : mg "range" = none
  enum : mg "enumerate" = none
  repr : mg "repr" = none
  nf : PySem.W.notFirst K C (.type "tuple") = true
  ne : PySem.W.findIn K (.ref C) "__ne__" = some (some (.builtin "object.__ne__"))
  bag : ∃ f fd, FnOk P w K mg base CX0 1 f fd ["_law_script"] (spBag K) ∧ Binds K fd ["_law_script"] [] ∧ mg "_law_bag" = some (.ref f) ∧ PySem.W.keepIn K (.ref f) = true
  pull : ∃ f fd, FnOk P w K mg base CX0 1 f fd ["_law_bag_here", "_law_many"] spPull ∧ Binds K fd ["_law_bag_here", "_law_many"] [] ∧ mg "_law_pull" = some (.ref f) ∧ PySem.W.keepIn K (.ref f) = true
  web : ∃ f fd, FnOk P w K mg base CX0 3 f fd ["_law_bag_here", "_law_rooms_most", "_law_more_most"] spWeb ∧ Binds K fd ["_law_bag_here", "_law_rooms_most", "_law_more_most"] [] ∧ mg "_law_web" = some (.ref f) ∧ PySem.W.keepIn K (.ref f) = true
  init : ∃ f fd, FnOk P w K mg base CX0 3 f fd ["self", "rooms", "arrows"] (spInit K C) ∧ Binds K fd ["self", "rooms", "arrows"] [] ∧ Mk K C f
  made : ∃ f fd, FnOk P w K mg base CX0 5 f fd ["_law_w"] (spMade C) ∧ Binds K fd ["_law_w"] [] ∧ mg "_law_made" = some (.ref f) ∧ PySem.W.keepIn K (.ref f) = true
  same : ∃ f fd, FnOk P w K mg base CX0 4 f fd ["_law_found", "_law_due"] (spSame K 3) ∧ Binds K fd ["_law_found", "_law_due"] [] ∧ mg "_law_same" = some (.ref f) ∧ PySem.W.keepIn K (.ref f) = true
  louts : ∃ f fd, FnOk P w K mg base CX0 1 f fd ["_law_w", "_law_room"] spLOuts ∧ Binds K fd ["_law_w", "_law_room"] [] ∧ mg "_law_outs" = some (.ref f) ∧ PySem.W.keepIn K (.ref f) = true
  lins : ∃ f fd, FnOk P w K mg base CX0 1 f fd ["_law_w", "_law_room"] spLIns ∧ Binds K fd ["_law_w", "_law_room"] [] ∧ mg "_law_ins" = some (.ref f) ∧ PySem.W.keepIn K (.ref f) = true
  lcount : ∃ f fd, FnOk P w K mg base CX0 1 f fd ["_law_w", "_law_one", "_law_other"] spLCount ∧ Binds K fd ["_law_w", "_law_one", "_law_other"] [] ∧ mg "_law_count" = some (.ref f) ∧ PySem.W.keepIn K (.ref f) = true
  naming : ∃ f fd, FnOk P w K mg base CX0 3 f fd ["_law_bag_here", "_law_w"] spNaming ∧ Binds K fd ["_law_bag_here", "_law_w"] [] ∧ mg "_law_naming" = some (.ref f) ∧ PySem.W.keepIn K (.ref f) = true
  named : ∃ f fd, FnOk P w K mg base CX0 1 f fd ["_law_w", "_law_rooms", "_law_arrows"] (spNamed K) ∧ Binds K fd ["_law_w", "_law_rooms", "_law_arrows"] [] ∧ mg "_law_named" = some (.ref f) ∧ PySem.W.keepIn K (.ref f) = true
  rooms : ∃ f fd, FnOk P w K mg base CX0 1 f fd ["self"] (spRooms C) ∧ Binds K fd ["self"] [] ∧ Meth K C "rooms" f
  arrows : ∃ f fd, FnOk P w K mg base CX0 1 f fd ["self"] (spArrows C) ∧ Binds K fd ["self"] [] ∧ Meth K C "arrows" f
  begin_ : ∃ f fd, FnOk P w K mg base CX0 3 f fd ["self", "arrow"] (spBegin C) ∧ Binds K fd ["self", "arrow"] [] ∧ Meth K C "begin" f
  end_ : ∃ f fd, FnOk P w K mg base CX0 3 f fd ["self", "arrow"] (spEnd C) ∧ Binds K fd ["self", "arrow"] [] ∧ Meth K C "end" f
  outs : ∃ f fd, FnOk P w K mg base CX0 2 f fd ["self", "room"] (spOuts C) ∧ Binds K fd ["self", "room"] [] ∧ Meth K C "outs" f
  ins : ∃ f fd, FnOk P w K mg base CX0 2 f fd ["self", "room"] (spIns C) ∧ Binds K fd ["self", "room"] [] ∧ Meth K C "ins" f
  leading : ∃ f fd, FnOk P w K mg base CX0 2 f fd ["self", "one", "other"] (spLeading C) ∧ Binds K fd ["self", "one", "other"] [] ∧ Meth K C "leading" f
  len : ∃ f fd, FnOk P w K mg base CX0 1 f fd ["self"] (spLen C) ∧ Binds K fd ["self"] [] ∧ PySem.W.findIn K (.ref C) "__len__" = some (some (.ref f)) ∧ PySem.W.isFn K (.ref f) = true
  rep : ∃ f fd, FnOk P w K mg base CX0 1 f fd ["self"] (spRepr C) ∧ Binds K fd ["self"] [] ∧ PySem.W.findIn K (.ref C) "__repr__" = some (some (.ref f)) ∧ PySem.W.isFn K (.ref f) = true
  eq : ∃ f fd, FnOk P w K mg base CX0 1 f fd ["self", "other"] (spEq C) ∧ Binds K fd ["self", "other"] [] ∧ PySem.W.findIn K (.ref C) "__eq__" = some (some (.ref f)) ∧ PySem.W.isFn K (.ref f) = true
theorem str_nil_app (z : Str) : Str.empty ++ z = z := by
  obtain ⟨c⟩ := z
  show Str.mk (#[] ++ c) = Str.mk c
  rw [Array.empty_append]
theorem boot_repr' : bootBuiltins "repr" = some (.builtin "repr") := by decide +kernel
section
variable {P : Program} {w : World} {K : PySem.W.Frag} {mg : Str → Option Value} {base : Heap}
set_option maxHeartbeats 40000000 in
theorem ok_law {f C : Addr} {fd : FuncData} (F : Fun K "law" "law" sLaw f fd) (Z : Defs P w K mg base C) : FnOk P w K mg base CX0 6 f fd ["_law_script"] (spLaw K) := by
  refine F.ok scLaw (fun vs H Q E h => ?_) (fun cdv A outer s H vs Q E hr h => ?_)
  · obtain ⟨a, ns, rfl, _⟩ := h
    rfl
  · obtain ⟨a, ns, rfl, hS, kk⟩ := h
    have T := Z.T
    have M := Z.M
    obtain ⟨fB, fdB, GB, bB, mB, kB⟩ := Z.bag
    obtain ⟨fP, fdP, GP, bP, mP, kP⟩ := Z.pull
    obtain ⟨fW, fdW, GW, bW, mW, kW⟩ := Z.web
    obtain ⟨fI, fdI, GI, bI, MI⟩ := Z.init
    obtain ⟨fM, fdM, GM, bM, mM, kM⟩ := Z.made
    obtain ⟨fS, fdS, GS, bS, mS, kS⟩ := Z.same
    obtain ⟨fO, fdO, GO, bO, mO, kO⟩ := Z.louts
    obtain ⟨fN, fdN, GN, bN, mN, kN⟩ := Z.lins
    obtain ⟨fC, fdC, GC, bC, mC, kC⟩ := Z.lcount
    obtain ⟨fA, fdA, GA, bA, mA, kA⟩ := Z.naming
    obtain ⟨fD, fdD, GD, bD, mD, kD⟩ := Z.named
    obtain ⟨f1, fd1, G1, b1, m1⟩ := Z.rooms
    obtain ⟨f2, fd2, G2, b2, m2⟩ := Z.arrows
    obtain ⟨f3, fd3, G3, b3, m3⟩ := Z.begin_
    obtain ⟨f4, fd4, G4, b4, m4⟩ := Z.end_
    obtain ⟨f5, fd5, G5, b5, m5⟩ := Z.outs
    obtain ⟨f6, fd6, G6, b6, m6⟩ := Z.ins
    obtain ⟨f7, fd7, G7, b7, m7⟩ := Z.leading
    obtain ⟨f8, fd8, G8, b8, s8, i8⟩ := Z.len
    obtain ⟨f9, fd9, G9, b9, s9, i9⟩ := Z.rep
    obtain ⟨fE, fdE, GE, bE, sE, iE⟩ := Z.eq
    have hr1 : Room 1 _ := hr.mono (by decide)
    have hr2 : Room 2 _ := hr.mono (by decide)
    have hr3 : Room 3 _ := hr.mono (by decide)
    have hr4 : Room 4 _ := hr.mono (by decide)
    refine ⟨_, pss_cons (ps_set (i := 1) scLaw.nd rfl (Or.inr rfl) (pe_call GB hr1 rfl mB kB bB .nil pass0 (pa_cons (pv 0) pa_nil)))
      (pss_cons (ps_for PassesOwn.never rfl (pi_range1 (by rfl) Z.range (pa_cons pe_int pa_nil)) (pg_name (i := 2) scLaw.nd rfl (Or.inl rfl))
        -- w = web(bag, 6, 8)
        (pss_cons (ps_set (i := 3) scLaw.nd rfl (Or.inr rfl) (pe_call GW hr3 rfl mW kW bW .nil pass0 (pa_cons (pv 1) (pa_cons pe_int (pa_cons pe_int pa_nil)))))
        -- handed
        (pss_cons (ps_setLc (i := 5) (own := [("_law_pair", 4)]) (g := gName 4) (tt := tYes) rfl scLaw.nd rfl rfl (sw_true rfl rfl rfl (by decide +kernel)) (pi_tup (pe_ix ix_tup (pv 3) pe_int (fun _ _ => rfl)))
          (blkOk_by (own := [("_law_pair", 4)]) (N := nLaw) (sc := defScope sLaw) (by decide +kernel)) (fun _ _ _ _ _ => pg_name (i := 4) scLaw.nd rfl (Or.inl rfl)) (fun _ _ _ _ _ => pts_nil)
          (fun _ _ _ _ _ => pe_ifExp (pt_cmpR op_eq (pe_call GP hr1 rfl mP kP bP .nil pass0 (pa_cons (pv 1) (pa_cons pe_int pa_nil))) pe_int (nomark _)) (pe_callTy (call_listK (K := K) rfl) (by rfl) M.lst boot_list' (pa_cons (pv 4) pa_nil)) (pv 4)))
        -- web_here = Web(w[0], handed)
        (pss_cons (ps_set (i := 6) scLaw.nd rfl (Or.inr rfl) (pe_make MI GI hr4 rfl Z.mC bI .nil pass0 (pa_cons (pe_ix ix_tup (pv 3) pe_int (fun _ _ => rfl)) (pa_cons (pv 5) pa_nil))))
        (pss_cons (ps_expr (pe_bm PySem.F.plainAttrs_list PySem.F.slot_list_append PySem.F.type_list_append mt_append (pv 5) (pa_cons (pe_tup (pa_cons pe_int (pa_cons pe_int pa_nil))) pa_nil)))
        (C8.pss_cut (ps_for PassesOwn.never rfl (pi_list (pe_lc (own := [("_law_pair", 4)]) (g := gName 4) rfl scLaw.nd (pi_list (pv 5)) (blkOk_by (own := [("_law_pair", 4)]) (N := nLaw) (sc := defScope sLaw) (by decide +kernel)) (fun _ _ _ _ _ => pg_name (i := 4) scLaw.nd rfl (Or.inl rfl))
            (fun _ _ _ _ _ => pts_one (pt_val (pe_callB (call_isiAt (K := K) rfl) (by rfl) M.isi boot_isi (pa_cons (pv 4) (pa_cons (pe_bltn (v := .ty "list") (by rfl) M.lst boot_list' rfl) pa_nil))))) (fun _ _ _ _ _ => pv 4)))
          (pg_name (i := 4) scLaw.nd rfl (Or.inl rfl)) (pss_one (ps_expr (pe_bm PySem.F.plainAttrs_list PySem.F.slot_list_append PySem.F.type_list_append mt_append (pv 4) (pa_cons pe_int pa_nil)))))
        -- for again in range(2)
        (C8.pss_cut (ps_for PassesOwn.never rfl (pi_range1 (by rfl) Z.range (pa_cons pe_int pa_nil)) (pg_name (i := 7) scLaw.nd rfl (Or.inl rfl))
          (pss_cons (ps_set (i := 8) scLaw.nd rfl (Or.inl rfl) (pe_meth0 (pv 6) T.cl m2 G2 hr1 b2 .nil pass0))
          (pss_cons (ps_if (pt_not (pt_val (pe_call GS hr4 rfl mS kS bS .nil pass0 (pa_cons (pe_lst (pa_cons (pe_meth0 (pv 6) T.cl m1 G1 hr1 b1 .nil pass0) (pa_cons (pv 8) (pa_cons (pe_callB (call_lenO G8 hr2 b8 pass0 s8 i8) (by rfl) M.len PySem.boot_len (pa_cons (pv 6) pa_nil)) pa_nil))))
              (pa_cons (pe_lst (pa_cons (pe_ix ix_tup (pv 3) pe_int (fun _ _ => rfl)) (pa_cons (pe_callTy call_list_of (by rfl) M.lst boot_list' (pa_cons (pe_ix ix_tup (pv 3) pe_int (fun _ _ => rfl)) pa_nil)) (pa_cons (pe_callB call_len_seq (by rfl) M.len PySem.boot_len (pa_cons (pe_ix ix_tup (pv 3) pe_int (fun _ _ => rfl)) pa_nil)) pa_nil)))) pa_nil))))) pss_never pss_nil)
          (pss_cons (ps_expr (pe_bm0 PySem.F.plainAttrs_list PySem.F.slot_list_pop PySem.F.type_list_pop mt_pop (pv 8)))
          (pss_one (ps_for PassesOwn.never rfl (pi_range1 (by rfl) Z.range (pa_cons (pe_ix ix_tup (pv 3) pe_int (fun _ _ => rfl)) pa_nil)) (pg_name (i := 9) scLaw.nd rfl (Or.inr rfl))
            (pss_cons (ps_par (by rfl) scLaw.nd (i := 10) (j := 11) rfl rfl (by decide) rfl rfl (pa_cons (pe_meth (pv 6) T.cl m5 G5 hr2 b5 .nil pass0 (pa_cons (pv 9) pa_nil)) (pa_cons (pe_meth (pv 6) T.cl m6 G6 hr2 b6 .nil pass0 (pa_cons (pv 9) pa_nil)) pa_nil)) (by rfl))
            (pss_cons (ps_if (pt_not (pt_val (pe_call GS hr4 rfl mS kS bS .nil pass0 (pa_cons (pe_lst (pa_cons (pv 10) (pa_cons (pv 11) pa_nil))) (pa_cons (pe_lst (pa_cons (pe_call GO hr1 rfl mO kO bO .nil pass0 (pa_cons (pv 3) (pa_cons (pv 9) pa_nil))) (pa_cons (pe_call GN hr1 rfl mN kN bN .nil pass0 (pa_cons (pv 3) (pa_cons (pv 9) pa_nil))) pa_nil))) pa_nil))))) pss_never pss_nil)
            (pss_cons (ps_expr (pe_bm PySem.F.plainAttrs_list PySem.F.slot_list_append PySem.F.type_list_append mt_append (pv 10) (pa_cons pe_int pa_nil)))
            (pss_cons (ps_expr (pe_bm PySem.F.plainAttrs_list PySem.F.slot_list_append PySem.F.type_list_append mt_append (pv 11) (pa_cons pe_int pa_nil)))
            (pss_cons (ps_setLc (i := 12) (own := [("_law_one", 17)]) (g := gName 17) (tt := tYes) rfl scLaw.nd rfl rfl (sw_true rfl rfl rfl (by decide +kernel)) (pi_range1 (by rfl) Z.range (pa_cons (pe_ix ix_tup (pv 3) pe_int (fun _ _ => rfl)) pa_nil))
              (blkOk_by (own := [("_law_one", 17)]) (N := nLaw) (sc := defScope sLaw) (by decide +kernel)) (fun _ _ _ _ _ => pg_name (i := 17) scLaw.nd rfl (Or.inl rfl)) (fun _ _ _ _ _ => pts_nil) (fun _ _ _ _ _ => pe_meth (pv 6) T.cl m7 G7 hr2 b7 .nil pass0 (pa_cons (pv 9) (pa_cons (pv 17) pa_nil))))
            (pss_one (ps_if (pt_not (pt_val (pe_call GS hr4 rfl mS kS bS .nil pass0 (pa_cons (pv 12) (pa_cons (pe_lc (own := [("_law_one", 17)]) (g := gName 17) (tt := tYes) rfl scLaw.nd (pi_range1 (by rfl) Z.range (pa_cons (pe_ix ix_tup (pv 3) pe_int (fun _ _ => rfl)) pa_nil))
              (blkOk_by (own := [("_law_one", 17)]) (N := nLaw) (sc := defScope sLaw) (by decide +kernel)) (fun _ _ _ _ _ => pg_name (i := 17) scLaw.nd rfl (Or.inl rfl)) (fun _ _ _ _ _ => pts_nil) (fun _ _ _ _ _ => pe_call GC hr1 rfl mC kC bC .nil pass0 (pa_cons (pv 3) (pa_cons (pv 9) (pa_cons (pv 17) pa_nil))))) pa_nil))))) pss_never pss_nil)))))))))))))
        -- for at, pair in enumerate(w[1])
        (C8.pss_cut (ps_for PassesOwn.never rfl (pi_enT (by rfl) Z.enum (pa_cons (pe_ix ix_tup (pv 3) pe_int (fun _ _ => rfl)) pa_nil)) (pg_tup rfl (pgs_cons (pg_name (i := 13) scLaw.nd rfl (Or.inl rfl)) (pgs_cons (pg_name (i := 4) scLaw.nd rfl (Or.inl rfl)) pgs_nil)))
          (pss_one (ps_if (pt_not (pt_val (pe_call GS hr4 rfl mS kS bS .nil pass0 (pa_cons (pe_tup (pa_cons (pe_meth (pv 6) T.cl m3 G3 hr3 b3 .nil pass0 (pa_cons (pv 13) pa_nil)) (pa_cons (pe_meth (pv 6) T.cl m4 G4 hr3 b4 .nil pass0 (pa_cons (pv 13) pa_nil)) pa_nil))) (pa_cons (pv 4) pa_nil))))) pss_never pss_nil)))
        (pss_cons (ps_asg (pe_call GA hr3 rfl mA kA bA .nil pass0 (pa_cons (pv 1) (pa_cons (pv 3) pa_nil))) (pg_tup rfl (pgs_cons (pg_name (i := 14) scLaw.nd rfl (Or.inl rfl)) (pgs_cons (pg_name (i := 15) scLaw.nd rfl (Or.inl rfl)) pgs_nil))))
        (pss_cons (ps_set (i := 16) scLaw.nd rfl (Or.inl rfl) (pe_call GD hr1 rfl mD kD bD .nil pass0 (pa_cons (pv 3) (pa_cons (pv 14) (pa_cons (pv 15) pa_nil)))))
        (pss_cons (ps_if (PW.pt (pw_or (pt_cmpR op_ne (pe_cmpR (op_eqO GE hr1 bE pass0 sE iE) (pv 6) (pe_call GM hr rfl mM kM bM .nil pass0 (pa_cons (pv 16) pa_nil)) (nomark _)) (pe_cmpR (op_eqD hr.units) (pv 3) (pv 16) (nomark _)) (nomark _))
            (pw_or (pt_cmpR (op_neO GE hr2 bE pass0 sE iE Z.ne Z.TQ.hm) (pv 6) (pe_call GM hr rfl mM kM bM .nil pass0 (pa_cons (pv 3) pa_nil)) (nomark _)) (pw_or1 (pt_cmpR (op_eqO GE hr1 bE pass0 sE iE) (pv 6) (pe_ix ix_tup (pv 3) pe_int (fun _ _ => rfl)) (nomark _)))))) pss_never pss_nil)
        (pss_cons (ps_if (pt_cmpR (op_eqO GE hr1 bE pass0 sE iE) (pv 6) (pe_make MI GI hr4 rfl Z.mC bI .nil pass0 (pa_cons (pe_op op_add (pe_ix ix_tup (pv 3) pe_int (fun _ _ => rfl)) pe_int) (pa_cons (pe_op op_cat (pe_callTy call_list_of (by rfl) M.lst boot_list' (pa_cons (pe_ix ix_tup (pv 3) pe_int (fun _ _ => rfl)) pa_nil)) (pe_lst (pa_cons (pe_tup (pa_cons (pe_ix ix_tup (pv 3) pe_int (fun _ _ => rfl)) (pa_cons pe_int pa_nil))) pa_nil))) pa_nil))) (nomark _)) pss_never pss_nil)
        (pss_one (ps_if (pt_cmpR op_ne (pe_callB (call_reprO G9 hr2 b9 pass0 s9 i9) (by rfl) Z.repr boot_repr' (pa_cons (pv 6) pa_nil))
            (pe_op op_add_str (pe_op op_add_str (pe_op op_add_str (pe_op op_add_str pe_str (pe_callTy call_str_int (by rfl) M.str boot_str' (pa_cons (pe_ix ix_tup (pv 3) pe_int (fun _ _ => rfl)) pa_nil))) pe_str) (pe_callTy call_str_int (by rfl) M.str boot_str' (pa_cons (pe_callB call_len_seq (by rfl) M.len PySem.boot_len (pa_cons (pe_ix ix_tup (pv 3) pe_int (fun _ _ => rfl)) pa_nil)) pa_nil))) pe_str) (nomark _)) pss_never pss_nil))))))))))))))
      (pss_one (ps_ret pe_bl))), ?_⟩
    refine ⟨_, rfl, a, ns, rfl, hS, fun H1 b l s1 nb nl B1 => ?_⟩
    generalize hns : ns.take 63 = ms at B1
    have kll : PySem.W.kitOne K (.type "list") (.type "list") = some true := kit_ty (by decide +kernel)
    have ktl : PySem.W.kitOne K (.type "tuple") (.type "list") = some false := kit_ty (by decide +kernel)
    refine ⟨_, rfl, by decide, by decide, for_range (lo := 0) (n := 4) (fun _ σ H' => (∃ v2 v3 v4 v5 v6 v7 v8 v9 v10 v11 v12 v13 v14 v15 v16 : Option V, σ = [some (.ref a), some (.ref b), v2, v3, v4, v5, v6, v7, v8, v9, v10, v11, v12, v13, v14, v15, v16, none]) ∧ BagAt b l ms H')
      ⟨⟨none, none, none, none, none, none, none, none, none, none, none, none, none, none, none, rfl⟩, B1⟩ ?_ (fun σ H' _ => kk H')⟩
    rintro i σ H2 hi ⟨⟨v2, v3, v4, v5, v6, v7, v8, v9, v10, v11, v12, v13, v14, v15, v16, rfl⟩, B2⟩
    refine ⟨_, rfl, b, l, ms, 6, 8, rfl, B2, by decide, by decide, by decide, fun H3 t n ps G3 W3 hn hp B3 => ?_⟩
    obtain ⟨q, as, ht, hq, hP, hG⟩ := id W3
    have hal : as.length = ps.length := Paired.length hP
    -- handed
    refine ⟨_, rfl, t, _, _, _, rfl, rfl, SqT.of ht, rfl, q, rfl, ⟨_, hq.sq⟩, fun D hD => ?_⟩
    have nbD : b ≠ D := B3.nb hD
    have nlD : l ≠ D := B3.nl hD
    refine lc_tup (K := K) (a := q) (xs := as) (fun i H' => ∃ vs : List V, H' D = some (.lst vs) ∧ Paired (HandV b l D H') vs (ps.take i) ∧ BagAt b l ms H' ∧ Grow b H3 H')
      ⟨[], upd_same, .nil, B3.new hD, (Grow.refl b H3).new hD⟩ ?_ ?_ ?_
    · rintro i H' _ ⟨vs, _, _, _, g⟩
      obtain ⟨xs, hb⟩ := B3.list
      exact ((Kp.grow hb g).f hq).sq
    · rintro i x H' hx ⟨vs, hV, hH, B', G'⟩
      obtain ⟨xb, hb3⟩ := B3.list
      have kG := Kp.grow hb3 G'
      obtain ⟨p, c, hp', rfl, hc⟩ := pairs_get (PairsIn.kp kG hP) hx
      have et : ps.take (i + 1) = ps.take i ++ [p] := take_snoc hp'
      have vl : vs.length ≤ 14 := by
        rw [Paired.length hH]
        have := List.length_take_le' i ps
        omega
      refine ⟨rfl, _, rfl, b, l, ms, 2, rfl, B', by decide, by decide, fun H5 r h0 h1 O5 B5 => ?_⟩
      obtain ⟨xb', hb'⟩ := B'.list
      have k5 : Kp H' H5 := Kp.off hb' O5
      have hV5 : H5 D = some (.lst vs) := by rw [O5 D nbD.symm]; exact hV
      have hH5 : Paired (HandV b l D H5) vs (ps.take i) := HandV.to k5 (fun c o n1 _ h => by rw [O5 c n1.symm]; exact h) hH
      have hc5 := k5.t hc
      have G5 : Grow b H3 H5 := G'.trans O5.grow
      refine ⟨rfl, _, rfl, ite2 (fun _ => ?_) (fun _ => ?_)⟩
      · refine ⟨_, rfl, c, _, rfl, .inr (SqT.of hc5), fun U hU => ?_⟩
        have nDU : D ≠ U := ne_of_none hV5 hU
        have hV6 : upd H5 U (.lst [.int p.1, .int p.2]) D = some (.lst vs) := by rw [upd_ne nDU]; exact hV5
        refine ⟨vs, hV6, by rw [sizeLine_eq]; omega, vs ++ [.ref U], upd_same, ?_, (B5.new hU).other nbD nlD, ?_⟩
        · rw [et]
          refine paired_snoc (HandV.to ((Kp.new hU).trans (Kp.put hV6)) (fun c o _ n2 h => ?_) hH5) (.inl ⟨U, rfl, ?_, B5.nb hU, B5.nl hU, nDU⟩)
          · rw [upd_ne n2.symm, upd_ne (ne_of_none h hU)]
            exact h
          · rw [upd_ne nDU.symm, upd_same]
        · intro c o nc e
          have e5 := G5 c o nc e
          rw [upd_ne (ne_of_none e hD), upd_ne (ne_of_none e5 hU)]
          exact e5
      · refine ⟨_, rfl, vs, hV5, by rw [sizeLine_eq]; omega, vs ++ [.ref c], upd_same, ?_, B5.other nbD nlD, ?_⟩
        · rw [et]
          refine paired_snoc (HandV.to (Kp.put hV5) (fun c o _ n2 h => ?_) hH5) (.inr ⟨c, rfl, (Kp.put hV5).t hc5⟩)
          rw [upd_ne n2.symm]
          exact h
        · intro c o nc e
          rw [upd_ne (ne_of_none e hD)]
          exact G5 c o nc e
    · rintro H4 ⟨vs, hV4, hH4, B4, G4⟩
      rw [hal, List.take_length] at hH4
      obtain ⟨xb, hb3⟩ := B3.list
      have k34 := Kp.grow hb3 G4
      have W4 := W3.kp k34
      have ht4 := k34.t ht
      have vl : vs.length ≤ 14 := by
        rw [Paired.length hH4]
        exact hp
      -- the web
      refine ⟨_, rfl, t, _, _, _, rfl, rfl, SqT.of ht4, rfl, _, rfl, ?_⟩
      intro x dx nx ndx nex
      have s2 : Same H4 (upd (upd H4 dx (.own x)) x (.ins C dx [])) := fun c o e => by
        rw [upd_ne (ne_of_none e nx), upd_ne (ne_of_none e ndx)]
        exact e
      have hHs : Paired (HandV b l D (upd (upd H4 dx (.own x)) x (.ins C dx []))) vs ps := HandV.to (Same.kp s2) (fun c o _ _ h => s2 c o h) hH4
      refine ⟨x, dx, D, n, vs, ps, rfl, upd_same, SqL.of (s2 _ _ hV4), HandV.loose hHs, hG, by omega, by omega, fun H5 hW5 g5 => ⟨rfl, ?_⟩⟩
      have s5 : Same H4 H5 := fun c o e => g5 c o (ne_of_none e nx) (s2 c o e)
      have hV5 := s5 _ _ hV4
      have hH5 : Paired (HandV b l D H5) vs ps := HandV.to (Same.kp s5) (fun c o _ _ h => s5 c o h) hH4
      have c5 : Core C b l t x ms n ps H5 := ⟨B4.same s5, W4.kp (Same.kp s5), hW5⟩
      -- handed.append((0, 0))
      refine ⟨_, rfl, .inl ⟨rfl, _, SqL.of hV5⟩, by show 2 ≤ sizeLine; decide, fun T hT => ?_⟩
      have sT : Same H5 (upd H5 T (.tup [.int 0, .int 0])) := same_new (Same.refl H5) hT
      have hV6 := sT _ _ hV5
      have hT6 : upd H5 T (.tup [.int 0, .int 0]) T = some (.tup [.int 0, .int 0]) := upd_same
      have hH6 : Paired (HandV b l D (upd H5 T (.tup [.int 0, .int 0]))) vs ps := HandV.to (Same.kp sT) (fun c o _ _ h => sT c o h) hH5
      have c6 := c5.same sT
      generalize upd H5 T (.tup [.int 0, .int 0]) = H6 at sT hV6 hT6 hH6 c6
      refine ⟨D, vs, _, rfl, rfl, hV6, by rw [sizeLine_eq]; omega, ?_⟩
      have c7 : Core C b l t x ms n ps (upd H6 D (.lst (vs ++ [.ref T]))) := c6.put hV6 nbD nlD
      have hV7 : upd H6 D (.lst (vs ++ [.ref T])) D = some (.lst (vs ++ [.ref T])) := upd_same
      have hI7 : ∀ v ∈ vs ++ [.ref T], LstV b l 2 (upd H6 D (.lst (vs ++ [.ref T]))) v := by
        intro v hv
        rcases List.mem_append.mp hv with hv | hv
        · obtain ⟨j, hj⟩ := List.mem_iff_getElem?.mp hv
          obtain ⟨p, _, hp'⟩ := paired_at hH6 hj
          rcases hp' with ⟨c, e, h, n1, n2, n3⟩ | ⟨c, e, h⟩
          · exact .inl ⟨c, _, e, by rw [upd_ne n3.symm]; exact h, by show 2 ≤ 2; decide, n1, n2⟩
          · exact .inr ⟨c, _, e, (Kp.put hV6).t h⟩
        · have e : v = .ref T := by simpa using hv
          exact .inr ⟨T, _, e, (Kp.put hV6).t hT6⟩
      generalize upd H6 D (.lst (vs ++ [.ref T])) = H7 at c7 hV7 hI7
      refine ⟨fun σ H => LS a b t x σ ∧ Core C b l t x ms n ps H, ?_, ?_⟩
      · refine ⟨_, rfl, D, rfl, ⟨_, SqL.of hV7⟩, fun D2 hD2 => ?_⟩
        refine lc_list (K := K) (a := D) (xs := vs ++ [.ref T]) (fun i H' => ∃ L : List V, H' D2 = some (.lst L) ∧ (∀ v ∈ L, ∃ c xs, v = .ref c ∧ H7 c = some (.lst xs) ∧ xs.length ≤ 2 ∧ b ≠ c ∧ l ≠ c) ∧ L.length ≤ i ∧ Same H7 H')
          ⟨[], upd_same, fun v hv => absurd hv (by simp), Nat.le_refl _, same_new (Same.refl H7) hD2⟩ (fun i H' _ ⟨_, _, _, _, g⟩ => SqL.of (g _ _ hV7)) ?_ ?_
        · rintro i v H' hv ⟨L, hL, hLs, hLl, s'⟩
          have hm : v ∈ vs ++ [.ref T] := List.mem_of_getElem? hv
          have hil : i < (vs ++ [V.ref T]).length := (List.getElem?_eq_some_iff.mp hv).1
          rw [List.length_append, List.length_singleton] at hil
          rcases hI7 v hm with ⟨c, xs, rfl, hc, hxl, n1, n2⟩ | ⟨c, xs, rfl, hc⟩
          · refine ⟨rfl, _, rfl, .ref c, .ty "list", .type "list", .type "list", true, rfl, .ty _, ty_list (SqL.of (s' _ _ hc)), kll, true, rfl, iteT ?_⟩
            refine ⟨_, rfl, L, hL, by rw [sizeLine_eq]; omega, L ++ [.ref c], upd_same, fun v hv => ?_, by rw [List.length_append, List.length_singleton]; omega, same_put s' hD2⟩
            rcases List.mem_append.mp hv with hv | hv
            · exact hLs v hv
            · have e : v = .ref c := by simpa using hv
              exact ⟨c, xs, e, hc, hxl, n1, n2⟩
          · refine ⟨rfl, _, rfl, .ref c, .ty "list", .type "tuple", .type "list", false, rfl, .ty _, ty_tup (SqT.of (s' _ _ hc)), ktl, false, rfl, iteF ?_⟩
            exact ⟨L, hL, hLs, by omega, s'⟩
        · rintro H8 ⟨L, hL, hLs, hLl, s8⟩
          rw [List.length_append, List.length_singleton] at hLl
          refine ⟨D2, rfl, ⟨_, SqL.of hL⟩, for_list (K := K) (a := D2) (xs := L) (fun i σ H' => LS a b t x σ ∧ H' D2 = some (.lst L) ∧ (∀ v ∈ L, ∃ c xs, v = .ref c ∧ H' c = some (.lst xs) ∧ xs.length ≤ 2 + i ∧ b ≠ c ∧ l ≠ c ∧ D2 ≠ c) ∧ Core C b l t x ms n ps H')
            ⟨⟨_, _, _, _, _, _, _, _, _, _, _, _, _, rfl⟩, hL, fun v hv => ?_, c7.same s8⟩ (fun i σ H' _ ⟨_, h, _⟩ => SqL.of h) ?_ ?_⟩
          · obtain ⟨c, xs, e, hc, hxl, n1, n2⟩ := hLs v hv
            exact ⟨c, xs, e, s8 _ _ hc, hxl, n1, n2, (ne_of_none hc hD2).symm⟩
          · rintro i v σ H' hv ⟨⟨v2, v4, v5, v7, v8, v9, v10, v11, v12, v13, v14, v15, v16, rfl⟩, hL', hLs', c'⟩
            have hil : i < L.length := (List.getElem?_eq_some_iff.mp hv).1
            obtain ⟨c, xs, rfl, hc, hxl, n1, n2, n3⟩ := hLs' v (List.mem_of_getElem? hv)
            refine ⟨_, rfl, .inl ⟨rfl, _, SqL.of hc⟩, c, xs, _, rfl, rfl, hc, by rw [sizeLine_eq]; omega, ?_⟩
            refine ⟨⟨_, _, _, _, _, _, _, _, _, _, _, _, _, rfl⟩, by rw [upd_ne n3]; exact hL', fun v hv => ?_, c'.put hc n1 n2⟩
            obtain ⟨c2, xs2, e2, hc2, hxl2, n12, n22, n32⟩ := hLs' v hv
            by_cases e : c2 = c
            · subst e
              exact ⟨c2, _, e2, upd_same, by rw [List.length_append, List.length_singleton]; omega, n12, n22, n32⟩
            · exact ⟨c2, xs2, e2, by rw [upd_ne e]; exact hc2, by omega, n12, n22, n32⟩
          · rintro σ H' ⟨hσ, _, _, c'⟩
            exact ⟨hσ, c'⟩
      · rintro σ8 H8 ⟨hσ8, c8⟩
        clear hI7 hV7 c7 hH6 hT6 hV6 c6 sT hH5 hV5 s5 hHs g5 s2
        have okMid : ∀ {H' H'' : Hp}, Core C b l t x ms n ps H' → Same H' H'' → Core C b l t x ms n ps H'' := fun c s => c.same s
        have hps : 1 ≤ ps.length := by
          obtain ⟨p, hp', _⟩ := hG.2.2 0 hG.1
          exact List.length_pos_of_mem hp'
        -- twice
        refine ⟨fun σ H => LS a b t x σ ∧ Core C b l t x ms n ps H, ⟨_, rfl, by decide, by decide, for_range (lo := 0) (n := 2) (fun _ σ H => LS a b t x σ ∧ Core C b l t x ms n ps H) ⟨hσ8, c8⟩ ?_ (fun σ H' z => z)⟩, ?_⟩
        · rintro i σ H hi ⟨⟨v2, v4, v5, v7, v8, v9, v10, v11, v12, v13, v14, v15, v16, rfl⟩, c⟩
          obtain ⟨dx1, q1, lv1, en1, as1, ls1, es1, hx1, _⟩ := id c.wa
          -- some = web_here.arrows()
          refine ⟨_, rfl, x, dx1, _, rfl, hx1, wf_meth _ _ _ _ (by decide +kernel), x, n, ps, rfl, c.wa, fun H9 lA asA sA nA hA hPA => ?_⟩
          have c9 := c.same sA
          have hx9 := sA _ _ hx1
          obtain ⟨q9, as9, ht9, hq9, hP9, _⟩ := id c9.wt
          have hal9 : as9.length = ps.length := Paired.length hP9
          have halA : asA.length = ps.length := Paired.length hPA
          -- the first likeness
          refine ⟨_, rfl, x, dx1, _, rfl, hx9, wf_meth _ _ _ _ (by decide +kernel), x, n, ps, rfl, c9.wa, _, rfl, _, rfl, x, dx1, _, rfl, hx9, x, n, ps, rfl, c9.wa, _, rfl, by omega, by omega, by show 3 ≤ sizeLine; decide, fun LA hLA => ?_⟩
          have s10 : Same H9 (upd H9 LA (.lst [.int n, .ref lA, .int ps.length])) := same_new (Same.refl H9) hLA
          have hLA' : upd H9 LA (.lst [.int n, .ref lA, .int ps.length]) LA = some (.lst [.int n, .ref lA, .int ps.length]) := upd_same
          generalize upd H9 LA (.lst [.int n, .ref lA, .int ps.length]) = H10 at s10 hLA'
          refine ⟨_, rfl, t, _, _, _, rfl, rfl, SqT.of (s10 _ _ ht9), rfl, _, rfl, t, _, _, _, rfl, rfl, SqT.of (s10 _ _ ht9), rfl, q9, _, rfl, .inr ((Same.kp s10).f hq9).sq, fun l2 hl2 => ?_⟩
          have s11 : Same H10 (upd H10 l2 (.lst as9)) := same_new (Same.refl H10) hl2
          have hl2' : upd H10 l2 (.lst as9) l2 = some (.lst as9) := upd_same
          generalize upd H10 l2 (.lst as9) = H11 at s11 hl2'
          refine ⟨_, rfl, t, _, _, _, rfl, rfl, SqT.of (s11 _ _ (s10 _ _ ht9)), rfl, q9, _, rfl, .inr ((Same.kp (s10.trans s11)).f hq9).sq, by show 3 ≤ sizeLine; decide, fun LB hLB => ?_⟩
          rw [hal9]
          have s12 : Same H11 (upd H11 LB (.lst [.int n, .ref l2, .int ps.length])) := same_new (Same.refl H11) hLB
          have hLB' : upd H11 LB (.lst [.int n, .ref l2, .int ps.length]) LB = some (.lst [.int n, .ref l2, .int ps.length]) := upd_same
          generalize upd H11 LB (.lst [.int n, .ref l2, .int ps.length]) = H12 at s12 hLB'
          have s912 : Same H9 H12 := s10.trans (s11.trans s12)
          refine ⟨.ref LA, .ref LB, .list [.int n, .list (ps.map pD), .int ps.length], rfl, ?_, ?_, ?_, fun H13 s13 => ⟨_, rfl, iteF ?_⟩⟩
          · exact .lst (SqL.of (s12 _ _ (s11 _ _ hLA'))) (.cons (.int _) (.cons (.lst (SqL.of (s912 _ _ hA)) (dp_pairs (PairsIn.kp (Same.kp s912) hPA))) (.cons (.int _) .nil)))
          · exact .lst (SqL.of hLB') (.cons (.int _) (.cons (.lst (SqL.of (s12 _ _ hl2')) (dp_pairs (PairsIn.kp (Same.kp s912) hP9))) (.cons (.int _) .nil)))
          · refine .inr ⟨_, .inl rfl, (by show 3 ≤ 1000; decide), fun z hz => ?_⟩
            rcases List.mem_cons.mp hz with e | hz
            · subst e; exact okT_int _
            rcases List.mem_cons.mp hz with e | hz
            · subst e; exact okT_pairs ps (by omega)
            rcases List.mem_cons.mp hz with e | hz
            · subst e; exact okT_int _
            · cases hz
          have s913 : Same H9 H13 := s912.trans s13
          have c13 := c9.same s913
          have hA13 := s913 _ _ hA
          have hx13 := s913 _ _ hx9
          -- some.pop()
          obtain ⟨y, hy⟩ : ∃ y, asA[asA.length - 1]? = some y := ⟨_, List.getElem?_eq_getElem (by omega)⟩
          refine ⟨_, rfl, .inl ⟨rfl, _, SqL.of hA13⟩, lA, asA, y, rfl, rfl, hA13, hy, ?_⟩
          have c14 := c13.put (o := .lst asA.dropLast) hA13 (c.nb nA) (c.nl nA)
          generalize upd H13 lA (.lst asA.dropLast) = H14 at c14
          obtain ⟨q14, as14, ht14, _⟩ := id c14.wt
          -- room by room
          refine ⟨_, rfl, t, _, _, _, rfl, rfl, SqT.of ht14, rfl, _, rfl, by omega, by omega, for_range (lo := 0) (n := n) (fun _ σ H => LS a b t x σ ∧ Core C b l t x ms n ps H) ⟨⟨_, _, _, _, _, _, _, _, _, _, _, _, _, rfl⟩, c14⟩ ?_ (fun σ H' z => z)⟩
          rintro r σ H15 hr' ⟨⟨w2, w4, w5, w7, w8, w9, w10, w11, w12, w13, w14, w15, w16, rfl⟩, c15⟩
          rw [Int.zero_add]
          obtain ⟨dx2, q2, lv2, en2, as2, ls2, es2, hx2, _⟩ := id c15.wa
          refine ⟨_, rfl, x, dx2, _, rfl, hx2, wf_meth _ _ _ _ (by decide +kernel), _, rfl, x, n, ps, r, rfl, c15.wa, hr', fun H16 lo sO nO hO => ?_⟩
          have c16 := c15.same sO
          have hx16 := sO _ _ hx2
          refine ⟨_, rfl, x, dx2, _, rfl, hx16, wf_meth _ _ _ _ (by decide +kernel), _, rfl, x, n, ps, r, rfl, c16.wa, hr', fun H17 li sI nI hI => ⟨_, _, rfl, ?_⟩⟩
          have c17 := c16.same sI
          have hO17 := sI _ _ hO
          have hx17 := sI _ _ hx16
          -- the second likeness
          refine ⟨_, rfl, _, rfl, by show 2 ≤ sizeLine; decide, fun LC hLC => ?_⟩
          have s18 : Same H17 (upd H17 LC (.lst [.ref lo, .ref li])) := same_new (Same.refl H17) hLC
          have hLC' : upd H17 LC (.lst [.ref lo, .ref li]) LC = some (.lst [.ref lo, .ref li]) := upd_same
          generalize upd H17 LC (.lst [.ref lo, .ref li]) = H18 at s18 hLC'
          have c18 := c17.same s18
          refine ⟨_, rfl, _, rfl, t, n, ps, r, rfl, c18.wt, by omega, fun H19 lo2 s19 _ ho2 => ?_⟩
          have c19 := c18.same s19
          refine ⟨_, rfl, _, rfl, t, n, ps, r, rfl, c19.wt, by omega, fun H20 li2 s20 _ hi2 => ⟨by show 2 ≤ sizeLine; decide, fun LD hLD => ?_⟩⟩
          have s21 : Same H20 (upd H20 LD (.lst [.ref lo2, .ref li2])) := same_new (Same.refl H20) hLD
          have hLD' : upd H20 LD (.lst [.ref lo2, .ref li2]) LD = some (.lst [.ref lo2, .ref li2]) := upd_same
          generalize upd H20 LD (.lst [.ref lo2, .ref li2]) = H21 at s21 hLD'
          have s1721 : Same H17 H21 := s18.trans (s19.trans (s20.trans s21))
          have len1 := idxs_len r (ps.map (·.1)) 0
          have len2 := idxs_len r (ps.map (·.2)) 0
          rw [List.length_map] at len1 len2
          refine ⟨.ref LC, .ref LD, .list [.list ((idxs (ps.map (·.1)) r 0).map nD), .list ((idxs (ps.map (·.2)) r 0).map nD)], rfl, ?_, ?_, ?_, fun H22 s22 => ⟨_, rfl, iteF ?_⟩⟩
          · exact .lst (SqL.of (s21 _ _ (s20 _ _ (s19 _ _ hLC')))) (.cons (dp_nums' (s1721 _ _ hO17)) (.cons (dp_nums' (s1721 _ _ hI)) .nil))
          · exact .lst (SqL.of hLD') (.cons (dp_nums' (s21 _ _ (s20 _ _ ho2))) (.cons (dp_nums' (s21 _ _ hi2)) .nil))
          · refine .inr ⟨_, .inl rfl, (by show 2 ≤ 1000; decide), fun z hz => ?_⟩
            rcases List.mem_cons.mp hz with e | hz
            · subst e; exact okT_nums _ (by omega)
            rcases List.mem_cons.mp hz with e | hz
            · subst e; exact okT_nums _ (by omega)
            · cases hz
          have s1722 : Same H17 H22 := s1721.trans s22
          have c22 := c17.same s1722
          have hO22 := s1722 _ _ hO17
          have hI22 := s1722 _ _ hI
          have nol : lo ≠ li := ne_of_none hO nI
          -- appended
          refine ⟨_, rfl, .inl ⟨rfl, _, SqL.of hO22⟩, lo, _, _, rfl, rfl, hO22, by rw [sizeLine_eq]; simp only [nums, List.length_map]; omega, ?_⟩
          have c23 := c22.put (o := .lst (nums (idxs (ps.map (·.1)) r 0) ++ [.int 0])) hO22 (c15.nb nO) (c15.nl nO)
          have hI23 : upd H22 lo (.lst (nums (idxs (ps.map (·.1)) r 0) ++ [.int 0])) li = some (.lst (nums (idxs (ps.map (·.2)) r 0))) := by rw [upd_ne nol.symm]; exact hI22
          generalize upd H22 lo (.lst (nums (idxs (ps.map (·.1)) r 0) ++ [.int 0])) = H23 at c23 hI23
          refine ⟨_, rfl, .inl ⟨rfl, _, SqL.of hI23⟩, li, _, _, rfl, rfl, hI23, by rw [sizeLine_eq]; simp only [nums, List.length_map]; omega, ?_⟩
          have c24 := c23.put (o := .lst (nums (idxs (ps.map (·.2)) r 0) ++ [.int 0])) hI23 (c16.nb nI) (c16.nl nI)
          generalize upd H23 li (.lst (nums (idxs (ps.map (·.2)) r 0) ++ [.int 0])) = H24 at c24
          obtain ⟨q24, as24, ht24, _⟩ := id c24.wt
          -- counts
          refine ⟨_, rfl, t, _, _, _, rfl, rfl, SqT.of ht24, rfl, _, rfl, by omega, by omega, fun E1 hE1 => ?_⟩
          refine lc_range (lo := 0) (n := n) (fun i H' => H' E1 = some (.lst (nums ((List.range i).map (cnt ps r)))) ∧ Same H24 H') ⟨upd_same, same_new (Same.refl H24) hE1⟩ ?_ ?_
          · rintro i H' hi' ⟨hE, s'⟩
            rw [Int.zero_add]
            have c' := c24.same s'
            obtain ⟨dx3, q3, lv3, en3, as3, ls3, es3, hx3, _⟩ := id c'.wa
            refine ⟨rfl, _, rfl, x, dx3, _, rfl, hx3, wf_meth _ _ _ _ (by decide +kernel), _, rfl, _, rfl, x, n, ps, r, i, rfl, c'.wa, hr', hi', fun H'' s'' => ?_⟩
            refine ⟨_, s'' _ _ hE, by rw [sizeLine_eq]; simp only [nums, List.length_map, List.length_range]; omega, ?_, same_put (s'.trans s'') hE1⟩
            rw [upd_same, List.range_succ, List.map_append]
            exact congrArg (fun l => some (HO.lst l)) (nums_snoc _ _).symm
          · rintro H25 ⟨hE25, s25⟩
            have c25 := c24.same s25
            obtain ⟨q25, as25, ht25, _⟩ := id c25.wt
            refine ⟨_, rfl, _, rfl, t, _, _, _, rfl, rfl, SqT.of ht25, rfl, _, rfl, by omega, by omega, fun E2 hE2 => ?_⟩
            refine lc_range (lo := 0) (n := n) (fun i H' => H' E2 = some (.lst (nums ((List.range i).map (cnt ps r)))) ∧ Same H25 H') ⟨upd_same, same_new (Same.refl H25) hE2⟩ ?_ ?_
            · rintro i H' hi' ⟨hE, s'⟩
              rw [Int.zero_add]
              have c' := c25.same s'
              refine ⟨rfl, _, rfl, _, rfl, _, rfl, t, n, ps, r, i, rfl, c'.wt, fun H'' s'' => ?_⟩
              refine ⟨_, s'' _ _ hE, by rw [sizeLine_eq]; simp only [nums, List.length_map, List.length_range]; omega, ?_, same_put (s'.trans s'') hE2⟩
              rw [upd_same, List.range_succ, List.map_append]
              exact congrArg (fun l => some (HO.lst l)) (nums_snoc _ _).symm
            · rintro H26 ⟨hE26, s26⟩
              refine ⟨.ref E1, .ref E2, .list (((List.range n).map (cnt ps r)).map nD), rfl, dp_nums' (s26 _ _ hE25), dp_nums' hE26, okT_nums _ (by simp only [List.length_map, List.length_range]; omega), fun H27 s27 => ⟨_, rfl, iteF ?_⟩⟩
              exact ⟨⟨_, _, _, _, _, _, _, _, _, _, _, _, _, rfl⟩, (c25.same s26).same s27⟩
        · rintro σ9 H9 ⟨hσ9, c9⟩
          obtain ⟨q9, as9, ht9, hq9, hP9, _⟩ := id c9.wt
          have hal9 : as9.length = ps.length := Paired.length hP9
          obtain ⟨w2, w4, w5, w7, w8, w9, w10, w11, w12, w13, w14, w15, w16, rfl⟩ := hσ9
          -- each arrow
          refine ⟨fun σ H => LS a b t x σ ∧ Core C b l t x ms n ps H, ⟨_, rfl, t, _, _, _, rfl, rfl, SqT.of ht9, rfl, q9, as9, rfl, hq9.sq,
            for_it (walk_enT (K := K) (a := q9) (xs := as9)) (fun _ σ H => LS a b t x σ ∧ Core C b l t x ms n ps H ∧ FzT H q9 as9 ∧ PairsIn H as9 ps)
              ⟨⟨_, _, _, _, _, _, _, _, _, _, _, _, _, rfl⟩, c9, hq9, hP9⟩ (fun i σ H _ ⟨_, _, h, _⟩ => h.sq) ?_ (fun σ H ⟨h1, h2, _⟩ => ⟨h1, h2⟩)⟩, ?_⟩
          · rintro i v σ H' H10 hi ⟨⟨u2, u4, u5, u7, u8, u9, u10, u11, u12, u13, u14, u15, u16, rfl⟩, c', hq', hP'⟩ ⟨T, x1, x2, rfl, hT, rfl, e1, e2⟩
            have e1 : V.int (i : Nat) = x1 := Option.some.inj e1
            subst e1
            obtain ⟨p, cc, hpi, rfl, hcc⟩ := pairs_get hP' e2
            have sT : Same H' (upd H' T (.tup [.int (i : Nat), .ref cc])) := same_new (Same.refl H') hT
            have hTt : upd H' T (.tup [.int (i : Nat), .ref cc]) T = some (.tup [.int (i : Nat), .ref cc]) := upd_same
            have cT := c'.same sT
            have hccT := sT _ _ hcc
            generalize upd H' T (.tup [.int (i : Nat), .ref cc]) = H11 at sT hTt cT hccT
            obtain ⟨dx3, q3, lv3, en3, as3, ls3, es3, hx3, _⟩ := id cT.wa
            refine ⟨T, _, rfl, SqT.of hTt, rfl, _, _, rfl, _, _, rfl, rfl, ?_⟩
            refine ⟨_, rfl, x, dx3, _, rfl, hx3, wf_meth _ _ _ _ (by decide +kernel), _, rfl, x, n, ps, i, p, rfl, cT.wa, hpi, ?_⟩
            refine ⟨_, rfl, x, dx3, _, rfl, hx3, wf_meth _ _ _ _ (by decide +kernel), _, rfl, x, n, ps, i, p, rfl, cT.wa, hpi, by show 2 ≤ sizeLine; decide, fun U hU => ?_⟩
            have sU : Same H11 (upd H11 U (.tup [.int p.1, .int p.2])) := same_new (Same.refl H11) hU
            have hUu : upd H11 U (.tup [.int p.1, .int p.2]) U = some (.tup [.int p.1, .int p.2]) := upd_same
            generalize upd H11 U (.tup [.int p.1, .int p.2]) = H12 at sU hUu
            refine ⟨_, rfl, .ref U, .ref cc, pD p, rfl, .tup (SqT.of hUu) (.cons (.int _) (.cons (.int _) .nil)), .tup (SqT.of (sU _ _ hccT)) (.cons (.int _) (.cons (.int _) .nil)), ?_, fun H13 s13 => ⟨_, rfl, iteF ?_⟩⟩
            · refine .inr ⟨_, .inr rfl, (by show 2 ≤ 1000; decide), fun y hy => ?_⟩
              rcases List.mem_cons.mp hy with e | hy
              · subst e; exact okT_int _
              · rcases List.mem_cons.mp hy with e | hy
                · subst e; exact okT_int _
                · cases hy
            · have sA : Same H' H13 := sT.trans (sU.trans s13)
              exact ⟨⟨_, _, _, _, _, _, _, _, _, _, _, _, _, rfl⟩, c'.same sA, (Same.kp sA).f hq', PairsIn.kp (Same.kp sA) hP'⟩
          · rintro σ H10 ⟨⟨u2, u4, u5, u7, u8, u9, u10, u11, u12, u13, u14, u15, u16, rfl⟩, c10⟩
            -- a naming
            refine ⟨_, rfl, _, rfl, b, l, ms, t, n, ps, rfl, c10.bag, c10.wt, by omega, by omega, fun H11 u a1 a2 rs is G11 B11 hu h1 h2 p1 p2 => ⟨u, _, rfl, SqT.of hu, rfl, _, _, rfl, _, _, rfl, rfl, ?_⟩⟩
            have c11 := c10.grow G11 B11
            refine ⟨_, rfl, _, rfl, _, rfl, t, a1, a2, n, ps, rs, is, rfl, c11.wt, by omega, by omega, h1, h2, p1, p2, fun H12 o qs s12 W12 hqs => ?_⟩
            have c12 := c11.same s12
            -- the first of three
            refine ⟨_, rfl, _, rfl, o, n, qs, rfl, W12, by omega, by omega, fun H13 y hy13 s13 ny => ?_⟩
            have c13 := c12.same s13
            have W13 := W12.kp (Same.kp s13)
            obtain ⟨dx3, q3, lv3, en3, as3, ls3, es3, hx3, _⟩ := id c13.wa
            obtain ⟨dy3, q4, lv4, en4, as4, ls4, es4, hy3, _⟩ := id hy13
            obtain ⟨q5, as5, ht5, hq5, hP5, _⟩ := id c13.wt
            obtain ⟨q6, as6, ho6, hq6, hP6, _⟩ := id W13
            have sh : ∀ zs : List (Nat × Nat), SeqAt.shaped (.tuple [.int n, .tuple (zs.map pD)]) = true := fun zs => by
              have h := pD_depth zs
              exact shaped_of (by simp only [PyData.canLay0, PyData.canLayAll0, pD_lay, Bool.and_self]) (by simp only [PyData.depth, PyData.depthAll]; omega)
            have ev : PyData.eqv (.tuple [.int n, .tuple (ps.map pD)]) (.tuple [.int n, .tuple (qs.map pD)]) = decide (n = n ∧ ps = qs) := by
              simp only [PyData.eqv, PyData.eqvAll, pDs_eqv, Bool.and_true, true_and]
              simp
            refine ⟨x, y, dx3, _, rfl, rfl, hx3, .inl ⟨_, _, hy3⟩, x, y, n, ps, rfl, c13.wa, .inl ⟨n, qs, hy13, _, rfl, ?_⟩⟩
            refine ⟨_, rfl, _, rfl, .tuple [.int n, .tuple (ps.map pD)], .tuple [.int n, .tuple (qs.map pD)], .tup (SqT.of ht5) (.cons (.int _) (.cons (.tup hq5.sq (dp_pairs hP5)) .nil)), .tup (SqT.of ho6) (.cons (.int _) (.cons (.tup hq6.sq (dp_pairs hP6)) .nil)), sh ps, sh qs, rfl, false, ?_, iteF ?_⟩
            · rw [ev]
              simp
            -- the second
            refine ⟨_, rfl, _, rfl, t, n, ps, rfl, c13.wt, by omega, by omega, fun H14 y2 hy14 s14 ny2 => ?_⟩
            have c14 := c13.same s14
            obtain ⟨dx4, q7, lv7, en7, as7, ls7, es7, hx4, _⟩ := id c14.wa
            obtain ⟨dy4, q8, lv8, en8, as8, ls8, es8, hy4, _⟩ := id hy14
            refine ⟨x, y2, dx4, dy4, _, _, rfl, rfl, hx4, hy4, x, y2, n, ps, rfl, c14.wa, .inl ⟨n, ps, hy14, _, rfl, false, ?_, iteF ?_⟩⟩
            · simp
            -- the third
            obtain ⟨q15, as15, ht15, hq15, hP15, _⟩ := id c14.wt
            refine ⟨_, rfl, _, rfl, t, _, _, _, rfl, rfl, SqT.of ht15, rfl, x, q15, dx4, _, rfl, rfl, hx4, .inr ⟨Z.nf, _, hq15.sq⟩, x, q15, n, ps, rfl, c14.wa, .inr ⟨_, hq15, _, rfl, _, rfl, iteF ?_⟩⟩
            -- another web
            refine ⟨_, rfl, _, rfl, t, _, _, _, rfl, rfl, SqT.of ht15, rfl, _, _, rfl, rfl, ?_⟩
            refine ⟨_, rfl, t, _, _, _, rfl, rfl, SqT.of ht15, rfl, q15, _, rfl, .inr hq15.sq, fun l1 hl1 => ?_⟩
            have s15 : Same H14 (upd H14 l1 (.lst as15)) := same_new (Same.refl H14) hl1
            have hl1' : upd H14 l1 (.lst as15) l1 = some (.lst as15) := upd_same
            generalize upd H14 l1 (.lst as15) = H15 at s15 hl1'
            refine ⟨_, rfl, t, _, _, _, rfl, rfl, SqT.of (s15 _ _ ht15), rfl, by show 2 ≤ sizeLine; decide, fun T hT => ⟨by show 1 ≤ sizeLine; decide, fun L2 hL2 => ?_⟩⟩
            have s16 : Same H15 (upd H15 T (.tup [.int n, .int 0])) := same_new (Same.refl H15) hT
            have hT16 : upd H15 T (.tup [.int n, .int 0]) T = some (.tup [.int n, .int 0]) := upd_same
            generalize upd H15 T (.tup [.int n, .int 0]) = H16 at s16 hT16 hL2
            have s17 : Same H16 (upd H16 L2 (.lst [.ref T])) := same_new (Same.refl H16) hL2
            have hL17 : upd H16 L2 (.lst [.ref T]) L2 = some (.lst [.ref T]) := upd_same
            generalize upd H16 L2 (.lst [.ref T]) = H17 at s17 hL17
            have hal15 : as15.length = ps.length := Paired.length hP15
            refine ⟨l1, L2, _, _, rfl, rfl, s17 _ _ (s16 _ _ hl1'), hL17, by rw [sizeLine_eq]; simp only [List.length_singleton]; omega, fun p hp18 => ?_⟩
            have s18 : Same H17 (upd H17 p (.lst (as15 ++ [.ref T]))) := same_new (Same.refl H17) hp18
            have hp18' : upd H17 p (.lst (as15 ++ [.ref T])) p = some (.lst (as15 ++ [.ref T])) := upd_same
            generalize upd H17 p (.lst (as15 ++ [.ref T])) = H18 at s18 hp18'
            intro x2 dx2 nx2 ndx2 nex2
            have s19 : Same H18 (upd (upd H18 dx2 (.own x2)) x2 (.ins C dx2 [])) := fun c o e => by
              rw [upd_ne (ne_of_none e nx2), upd_ne (ne_of_none e ndx2)]
              exact e
            have s1419 := s15.trans (s16.trans (s17.trans (s18.trans s19)))
            have s1619 := s17.trans (s18.trans s19)
            have hP19 : PairsIn (upd (upd H18 dx2 (.own x2)) x2 (.ins C dx2 [])) (as15 ++ [.ref T]) (ps ++ [(n, 0)]) := paired_snoc (PairsIn.kp (Same.kp s1419) hP15) ⟨T, rfl, s1619 _ _ hT16⟩
            have hG2 : Good (n + 1) (ps ++ [(n, 0)]) := by
              refine ⟨by omega, fun p hp => ?_, fun r hr => ?_⟩
              · rcases List.mem_append.mp hp with hp | hp
                · have := hG.2.1 p hp
                  omega
                · have e : p = (n, 0) := by simpa using hp
                  subst e
                  exact ⟨by show n < n + 1; omega, by show 0 < n + 1; omega⟩
              · by_cases e : r = n
                · exact ⟨(n, 0), List.mem_append_right _ (by simp), e.symm⟩
                · obtain ⟨p, hp, e⟩ := hG.2.2 r (by omega)
                  exact ⟨p, List.mem_append_left _ hp, e⟩
            refine ⟨x2, dx2, p, n + 1, _, _, rfl, upd_same, SqL.of (s19 _ _ hp18'), PairsIn.loose hP19, hG2, by omega, by rw [List.length_append, List.length_singleton]; omega, fun H20 hW20 g20 => ⟨rfl, ?_⟩⟩
            have s20 : Same H14 H20 := fun c o e => g20 c o (ne_of_none (s18 _ _ (s17 _ _ (s16 _ _ (s15 _ _ e)))) nx2) (s1419 c o e)
            have c20 := c14.same s20
            obtain ⟨dx5, q21, lv21, en21, as21, ls21, es21, hx5, _⟩ := id c20.wa
            obtain ⟨dy5, q22, lv22, en22, as22, ls22, es22, hy5, _⟩ := id hW20
            refine ⟨x, x2, dx5, _, rfl, rfl, hx5, .inl ⟨_, _, hy5⟩, x, x2, n, ps, rfl, c20.wa, .inl ⟨n + 1, _, hW20, _, rfl, false, ?_, iteF ?_⟩⟩
            · have e : decide (n = n + 1 ∧ ps = ps ++ [(n, 0)]) = false := decide_eq_false (by omega)
              rw [e]
            -- repr
            obtain ⟨q23, as23, ht23, hq23, hP23, _⟩ := id c20.wt
            have hal23 : as23.length = ps.length := Paired.length hP23
            have t1 := numT_len n (by omega)
            have t2 := numT_len ps.length (by omega)
            have z1 : ("Web(" : Str).length = 4 := by decide +kernel
            have z2 : (" rooms, " : Str).length = 8 := by decide +kernel
            have z3 : (" arrows)" : Str).length = 8 := by decide +kernel
            refine ⟨_, rfl, x, dx5, _, rfl, hx5, x, n, ps, rfl, c20.wa, by omega, by omega, _, rfl, ?_⟩
            refine ⟨_, rfl, t, _, _, _, rfl, rfl, SqT.of ht23, rfl, _, rfl, small_log n (by omega), "Web(", numT n, rfl, rfl, by rw [sizeLine_eq]; omega, ?_⟩
            refine ⟨_, " rooms, ", rfl, rfl, by rw [sizeLine_eq, str_len_append]; omega, ?_⟩
            refine ⟨_, rfl, t, _, _, _, rfl, rfl, SqT.of ht23, rfl, q23, _, rfl, .inr hq23.sq, _, rfl, by rw [hal23]; exact small_log _ (by omega), _, numT ps.length, rfl, by rw [hal23]; rfl, by rw [sizeLine_eq, str_len_append, str_len_append]; omega, ?_⟩
            refine ⟨_, " arrows)", rfl, rfl, by rw [sizeLine_eq, str_len_append, str_len_append, str_len_append]; omega, ?_⟩
            refine ⟨rfl, false, ?_, iteF ?_⟩
            · have e : webTxt n ps.length = "Web(" ++ numT n ++ " rooms, " ++ numT ps.length ++ " arrows)" := by
                unfold webTxt
                rw [str_nil_app]
              rw [e]
              simp
            exact ⟨⟨_, _, _, _, _, _, _, _, _, _, _, _, _, _, _, rfl⟩, c20.bag⟩
end
end KW
set_option Elab.async false
set_option maxRecDepth 100000
set_option maxHeartbeats 4000000
/-! The end. -/
namespace KW
open PySem PySem.Spec PyProof.Rows L2
theorem kit_own {K : PySem.W.Frag} {C : Addr} : PySem.W.kitOne K (.ref C) (.ref C) = some true := by
  unfold PySem.W.kitOne
  rw [if_pos (by simp)]
theorem kit_of {K : PySem.W.Frag} {C : Addr} {t : Value} {r : Bool} (h1 : PySem.W.isClsIn K C = true) (h2 : PySem.W.typeIn K (.ref C) = some (.type "type")) (h3 : (t == .ref C) = false) (h4 : PySem.W.subIn K t (.ref C) = some r) : PySem.W.kitOne K t (.ref C) = some r := by
  unfold PySem.W.kitOne PySem.W.kitCls
  rw [h3, if_neg (by decide)]
  have e : ((PySem.W.clsIn K C).isSome && PySem.W.typeIn K (.ref C) == some (.type "type")) = true := by
    rw [h2, show (PySem.W.clsIn K C).isSome = true from h1]
    simp
  show (if ((PySem.W.clsIn K C).isSome && PySem.W.typeIn K (.ref C) == some (.type "type")) = true then PySem.W.subIn K t (.ref C) else none) = some r
  rw [if_pos e]
  exact h4
theorem all_mk {l : PySem.W.OpenLaw} {w : World} {K : PySem.W.Frag} {h : Heap} {mg : Str → Option Value} {fa C : Addr} (X : K.In h) (G : h.Ns mainGlobals mg) (hfa : mg "law" = some (.ref fa)) {t1 t4 : Tok}
    {fA1 : Addr} {odA1 anA1 : Option Addr} {slA1 : Array (Option Value)} {ocA1 kVA1 dcA1 pmA1 cdA1 ctA1 : Value}
    {fA2 : Addr} {odA2 anA2 : Option Addr} {slA2 : Array (Option Value)} {ocA2 kVA2 dcA2 pmA2 cdA2 ctA2 : Value}
    {fA3 : Addr} {odA3 anA3 : Option Addr} {slA3 : Array (Option Value)} {ocA3 kVA3 dcA3 pmA3 cdA3 ctA3 : Value}
    {fA4 : Addr} {odA4 anA4 : Option Addr} {slA4 : Array (Option Value)} {ocA4 kVA4 dcA4 pmA4 cdA4 ctA4 : Value}
    {fA5 : Addr} {odA5 anA5 : Option Addr} {slA5 : Array (Option Value)} {ocA5 kVA5 dcA5 pmA5 cdA5 ctA5 : Value}
    {fA6 : Addr} {odA6 anA6 : Option Addr} {slA6 : Array (Option Value)} {ocA6 kVA6 dcA6 pmA6 cdA6 ctA6 : Value}
    {fA7 : Addr} {odA7 anA7 : Option Addr} {slA7 : Array (Option Value)} {ocA7 kVA7 dcA7 pmA7 cdA7 ctA7 : Value}
    {fA8 : Addr} {odA8 anA8 : Option Addr} {slA8 : Array (Option Value)} {ocA8 kVA8 dcA8 pmA8 cdA8 ctA8 : Value}
    {fA9 : Addr} {odA9 anA9 : Option Addr} {slA9 : Array (Option Value)} {ocA9 kVA9 dcA9 pmA9 cdA9 ctA9 : Value}
    {fB1 : Addr} {odB1 anB1 : Option Addr} {slB1 : Array (Option Value)} {ocB1 kVB1 dcB1 pmB1 cdB1 ctB1 : Value}
    {fB2 : Addr} {odB2 anB2 : Option Addr} {slB2 : Array (Option Value)} {ocB2 kVB2 dcB2 pmB2 cdB2 ctB2 : Value}
    {fB3 : Addr} {odB3 anB3 : Option Addr} {slB3 : Array (Option Value)} {ocB3 kVB3 dcB3 pmB3 cdB3 ctB3 : Value}
    {fB4 : Addr} {odB4 anB4 : Option Addr} {slB4 : Array (Option Value)} {ocB4 kVB4 dcB4 pmB4 cdB4 ctB4 : Value}
    {fB5 : Addr} {odB5 anB5 : Option Addr} {slB5 : Array (Option Value)} {ocB5 kVB5 dcB5 pmB5 cdB5 ctB5 : Value}
    {fB6 : Addr} {odB6 anB6 : Option Addr} {slB6 : Array (Option Value)} {ocB6 kVB6 dcB6 pmB6 cdB6 ctB6 : Value}
    {fM1 : Addr} {odM1 anM1 : Option Addr} {slM1 : Array (Option Value)} {ocM1 kVM1 dcM1 pmM1 cdM1 ctM1 : Value}
    {fM2 : Addr} {odM2 anM2 : Option Addr} {slM2 : Array (Option Value)} {ocM2 kVM2 dcM2 pmM2 cdM2 ctM2 : Value}
    {fM3 : Addr} {odM3 anM3 : Option Addr} {slM3 : Array (Option Value)} {ocM3 kVM3 dcM3 pmM3 cdM3 ctM3 : Value}
    {fM4 : Addr} {odM4 anM4 : Option Addr} {slM4 : Array (Option Value)} {ocM4 kVM4 dcM4 pmM4 cdM4 ctM4 : Value}
    {fM5 : Addr} {odM5 anM5 : Option Addr} {slM5 : Array (Option Value)} {ocM5 kVM5 dcM5 pmM5 cdM5 ctM5 : Value}
    {fM6 : Addr} {odM6 anM6 : Option Addr} {slM6 : Array (Option Value)} {ocM6 kVM6 dcM6 pmM6 cdM6 ctM6 : Value}
    {fM7 : Addr} {odM7 anM7 : Option Addr} {slM7 : Array (Option Value)} {ocM7 kVM7 dcM7 pmM7 cdM7 ctM7 : Value}
    {fM8 : Addr} {odM8 anM8 : Option Addr} {slM8 : Array (Option Value)} {ocM8 kVM8 dcM8 pmM8 cdM8 ctM8 : Value}
    {fM9 : Addr} {odM9 anM9 : Option Addr} {slM9 : Array (Option Value)} {ocM9 kVM9 dcM9 pmM9 cdM9 ctM9 : Value}
    {fN1 : Addr} {odN1 anN1 : Option Addr} {slN1 : Array (Option Value)} {ocN1 kVN1 dcN1 pmN1 cdN1 ctN1 : Value}
    {fN2 : Addr} {odN2 anN2 : Option Addr} {slN2 : Array (Option Value)} {ocN2 kVN2 dcN2 pmN2 cdN2 ctN2 : Value}
    {fN3 : Addr} {odN3 anN3 : Option Addr} {slN3 : Array (Option Value)} {ocN3 kVN3 dcN3 pmN3 cdN3 ctN3 : Value}
    {fN4 : Addr} {odN4 anN4 : Option Addr} {slN4 : Array (Option Value)} {ocN4 kVN4 dcN4 pmN4 cdN4 ctN4 : Value}
    {fN5 : Addr} {odN5 anN5 : Option Addr} {slN5 : Array (Option Value)} {ocN5 kVN5 dcN5 pmN5 cdN5 ctN5 : Value}
    (aC : PySem.W.nsIn K mainGlobals "Web" = some (some (.ref C)))
    (aA1 : PySem.W.nsIn K mainGlobals "is_pair" = some (some (.ref fA1)))
    (lA1 : K.lookup fA1 = some ⟨ocA1, odA1, .func (PySem.W.fnOf "is_pair" "is_pair" (defArgs sIsPair) (defBody sIsPair) (defScope sIsPair) .none kVA1 dcA1 pmA1 anA1 cdA1 ctA1), slA1⟩)
    (cA1 : PySem.W.codeIn K cdA1 "is_pair" = true)
    (kA1 : PySem.W.keepIn K (.ref fA1) = true)
    (aA2 : PySem.W.nsIn K mainGlobals "pairs_of" = some (some (.ref fA2)))
    (lA2 : K.lookup fA2 = some ⟨ocA2, odA2, .func (PySem.W.fnOf "pairs_of" "pairs_of" (defArgs sPairsOf) (defBody sPairsOf) (defScope sPairsOf) .none kVA2 dcA2 pmA2 anA2 cdA2 ctA2), slA2⟩)
    (cA2 : PySem.W.codeIn K cdA2 "pairs_of" = true)
    (kA2 : PySem.W.keepIn K (.ref fA2) = true)
    (aA3 : PySem.W.nsIn K mainGlobals "gathered" = some (some (.ref fA3)))
    (lA3 : K.lookup fA3 = some ⟨ocA3, odA3, .func (PySem.W.fnOf "gathered" "gathered" (defArgs sGathered) (defBody sGathered) (defScope sGathered) .none kVA3 dcA3 pmA3 anA3 cdA3 ctA3), slA3⟩)
    (cA3 : PySem.W.codeIn K cdA3 "gathered" = true)
    (kA3 : PySem.W.keepIn K (.ref fA3) = true)
    (aA4 : PySem.W.nsIn K mainGlobals "_law_bag" = some (some (.ref fA4)))
    (lA4 : K.lookup fA4 = some ⟨ocA4, odA4, .func (PySem.W.fnOf "_law_bag" "_law_bag" (defArgs sBag) (defBody sBag) (defScope sBag) .none kVA4 dcA4 pmA4 anA4 cdA4 ctA4), slA4⟩)
    (cA4 : PySem.W.codeIn K cdA4 "_law_bag" = true)
    (kA4 : PySem.W.keepIn K (.ref fA4) = true)
    (aA5 : PySem.W.nsIn K mainGlobals "_law_pull" = some (some (.ref fA5)))
    (lA5 : K.lookup fA5 = some ⟨ocA5, odA5, .func (PySem.W.fnOf "_law_pull" "_law_pull" (defArgs sPull) (defBody sPull) (defScope sPull) .none kVA5 dcA5 pmA5 anA5 cdA5 ctA5), slA5⟩)
    (cA5 : PySem.W.codeIn K cdA5 "_law_pull" = true)
    (kA5 : PySem.W.keepIn K (.ref fA5) = true)
    (aA6 : PySem.W.nsIn K mainGlobals "_law_same" = some (some (.ref fA6)))
    (lA6 : K.lookup fA6 = some ⟨ocA6, odA6, .func (PySem.W.fnOf "_law_same" "_law_same" (defArgs sSame) (defBody sSame) (defScope sSame) .none kVA6 dcA6 pmA6 anA6 cdA6 ctA6), slA6⟩)
    (cA6 : PySem.W.codeIn K cdA6 "_law_same" = true)
    (kA6 : PySem.W.keepIn K (.ref fA6) = true)
    (aA7 : PySem.W.nsIn K mainGlobals "_law_mixed" = some (some (.ref fA7)))
    (lA7 : K.lookup fA7 = some ⟨ocA7, odA7, .func (PySem.W.fnOf "_law_mixed" "_law_mixed" (defArgs sMixed) (defBody sMixed) (defScope sMixed) .none kVA7 dcA7 pmA7 anA7 cdA7 ctA7), slA7⟩)
    (cA7 : PySem.W.codeIn K cdA7 "_law_mixed" = true)
    (kA7 : PySem.W.keepIn K (.ref fA7) = true)
    (aA8 : PySem.W.nsIn K mainGlobals "_law_web" = some (some (.ref fA8)))
    (lA8 : K.lookup fA8 = some ⟨ocA8, odA8, .func (PySem.W.fnOf "_law_web" "_law_web" (defArgs sWeb) (defBody sWeb) (defScope sWeb) .none kVA8 dcA8 pmA8 anA8 cdA8 ctA8), slA8⟩)
    (cA8 : PySem.W.codeIn K cdA8 "_law_web" = true)
    (kA8 : PySem.W.keepIn K (.ref fA8) = true)
    (aA9 : PySem.W.nsIn K mainGlobals "_law_made" = some (some (.ref fA9)))
    (lA9 : K.lookup fA9 = some ⟨ocA9, odA9, .func (PySem.W.fnOf "_law_made" "_law_made" (defArgs sMade) (defBody sMade) (defScope sMade) .none kVA9 dcA9 pmA9 anA9 cdA9 ctA9), slA9⟩)
    (cA9 : PySem.W.codeIn K cdA9 "_law_made" = true)
    (kA9 : PySem.W.keepIn K (.ref fA9) = true)
    (aB1 : PySem.W.nsIn K mainGlobals "_law_outs" = some (some (.ref fB1)))
    (lB1 : K.lookup fB1 = some ⟨ocB1, odB1, .func (PySem.W.fnOf "_law_outs" "_law_outs" (defArgs sLOuts) (defBody sLOuts) (defScope sLOuts) .none kVB1 dcB1 pmB1 anB1 cdB1 ctB1), slB1⟩)
    (cB1 : PySem.W.codeIn K cdB1 "_law_outs" = true)
    (kB1 : PySem.W.keepIn K (.ref fB1) = true)
    (aB2 : PySem.W.nsIn K mainGlobals "_law_ins" = some (some (.ref fB2)))
    (lB2 : K.lookup fB2 = some ⟨ocB2, odB2, .func (PySem.W.fnOf "_law_ins" "_law_ins" (defArgs sLIns) (defBody sLIns) (defScope sLIns) .none kVB2 dcB2 pmB2 anB2 cdB2 ctB2), slB2⟩)
    (cB2 : PySem.W.codeIn K cdB2 "_law_ins" = true)
    (kB2 : PySem.W.keepIn K (.ref fB2) = true)
    (aB3 : PySem.W.nsIn K mainGlobals "_law_named" = some (some (.ref fB3)))
    (lB3 : K.lookup fB3 = some ⟨ocB3, odB3, .func (PySem.W.fnOf "_law_named" "_law_named" (defArgs sLNamed) (defBody sLNamed) (defScope sLNamed) .none kVB3 dcB3 pmB3 anB3 cdB3 ctB3), slB3⟩)
    (cB3 : PySem.W.codeIn K cdB3 "_law_named" = true)
    (kB3 : PySem.W.keepIn K (.ref fB3) = true)
    (aB4 : PySem.W.nsIn K mainGlobals "_law_naming" = some (some (.ref fB4)))
    (lB4 : K.lookup fB4 = some ⟨ocB4, odB4, .func (PySem.W.fnOf "_law_naming" "_law_naming" (defArgs sLNaming) (defBody sLNaming) (defScope sLNaming) .none kVB4 dcB4 pmB4 anB4 cdB4 ctB4), slB4⟩)
    (cB4 : PySem.W.codeIn K cdB4 "_law_naming" = true)
    (kB4 : PySem.W.keepIn K (.ref fB4) = true)
    (aB5 : PySem.W.nsIn K mainGlobals "_law_count" = some (some (.ref fB5)))
    (lB5 : K.lookup fB5 = some ⟨ocB5, odB5, .func (PySem.W.fnOf "_law_count" "_law_count" (defArgs sLCount) (defBody sLCount) (defScope sLCount) .none kVB5 dcB5 pmB5 anB5 cdB5 ctB5), slB5⟩)
    (cB5 : PySem.W.codeIn K cdB5 "_law_count" = true)
    (kB5 : PySem.W.keepIn K (.ref fB5) = true)
    (aB6 : PySem.W.nsIn K mainGlobals "law" = some (some (.ref fB6)))
    (lB6 : K.lookup fB6 = some ⟨ocB6, odB6, .func (PySem.W.fnOf "law" "law" (defArgs sLaw) (defBody sLaw) (defScope sLaw) .none kVB6 dcB6 pmB6 anB6 cdB6 ctB6), slB6⟩)
    (cB6 : PySem.W.codeIn K cdB6 "law" = true)
    (kB6 : PySem.W.keepIn K (.ref fB6) = true)
    (aM1 : PySem.W.findIn K (.ref C) "__init__" = some (some (.ref fM1)))
    (iM1 : PySem.W.isFn K (.ref fM1) = true)
    (lM1 : K.lookup fM1 = some ⟨ocM1, odM1, .func (PySem.W.fnOf "__init__" "Web.__init__" (defArgs sInit) (defBody sInit) (defScope sInit) .none kVM1 dcM1 pmM1 anM1 cdM1 ctM1), slM1⟩)
    (cM1 : PySem.W.codeIn K cdM1 "Web.__init__" = true)
    (kM1 : PySem.W.keepIn K (.ref fM1) = true)
    (aM2 : PySem.W.findIn K (.ref C) "__eq__" = some (some (.ref fM2)))
    (iM2 : PySem.W.isFn K (.ref fM2) = true)
    (lM2 : K.lookup fM2 = some ⟨ocM2, odM2, .func (PySem.W.fnOf "__eq__" "Web.__eq__" (defArgs sEq) (defBody sEq) (defScope sEq) .none kVM2 dcM2 pmM2 anM2 cdM2 ctM2), slM2⟩)
    (cM2 : PySem.W.codeIn K cdM2 "Web.__eq__" = true)
    (kM2 : PySem.W.keepIn K (.ref fM2) = true)
    (aM3 : PySem.W.findIn K (.ref C) "__len__" = some (some (.ref fM3)))
    (iM3 : PySem.W.isFn K (.ref fM3) = true)
    (lM3 : K.lookup fM3 = some ⟨ocM3, odM3, .func (PySem.W.fnOf "__len__" "Web.__len__" (defArgs sLen) (defBody sLen) (defScope sLen) .none kVM3 dcM3 pmM3 anM3 cdM3 ctM3), slM3⟩)
    (cM3 : PySem.W.codeIn K cdM3 "Web.__len__" = true)
    (kM3 : PySem.W.keepIn K (.ref fM3) = true)
    (aM4 : PySem.W.findIn K (.ref C) "__repr__" = some (some (.ref fM4)))
    (iM4 : PySem.W.isFn K (.ref fM4) = true)
    (lM4 : K.lookup fM4 = some ⟨ocM4, odM4, .func (PySem.W.fnOf "__repr__" "Web.__repr__" (defArgs sRepr) (defBody sRepr) (defScope sRepr) .none kVM4 dcM4 pmM4 anM4 cdM4 ctM4), slM4⟩)
    (cM4 : PySem.W.codeIn K cdM4 "Web.__repr__" = true)
    (kM4 : PySem.W.keepIn K (.ref fM4) = true)
    (aM5 : PySem.W.findIn K (.ref C) "rooms" = some (some (.ref fM5)))
    (iM5 : PySem.W.isFn K (.ref fM5) = true)
    (lM5 : K.lookup fM5 = some ⟨ocM5, odM5, .func (PySem.W.fnOf "rooms" "Web.rooms" (defArgs sRooms) (defBody sRooms) (defScope sRooms) .none kVM5 dcM5 pmM5 anM5 cdM5 ctM5), slM5⟩)
    (cM5 : PySem.W.codeIn K cdM5 "Web.rooms" = true)
    (kM5 : PySem.W.keepIn K (.ref fM5) = true)
    (aM6 : PySem.W.findIn K (.ref C) "arrows" = some (some (.ref fM6)))
    (iM6 : PySem.W.isFn K (.ref fM6) = true)
    (lM6 : K.lookup fM6 = some ⟨ocM6, odM6, .func (PySem.W.fnOf "arrows" "Web.arrows" (defArgs sArrows) (defBody sArrows) (defScope sArrows) .none kVM6 dcM6 pmM6 anM6 cdM6 ctM6), slM6⟩)
    (cM6 : PySem.W.codeIn K cdM6 "Web.arrows" = true)
    (kM6 : PySem.W.keepIn K (.ref fM6) = true)
    (aM7 : PySem.W.findIn K (.ref C) "begin" = some (some (.ref fM7)))
    (iM7 : PySem.W.isFn K (.ref fM7) = true)
    (lM7 : K.lookup fM7 = some ⟨ocM7, odM7, .func (PySem.W.fnOf "begin" "Web.begin" (defArgs sBegin) (defBody sBegin) (defScope sBegin) .none kVM7 dcM7 pmM7 anM7 cdM7 ctM7), slM7⟩)
    (cM7 : PySem.W.codeIn K cdM7 "Web.begin" = true)
    (kM7 : PySem.W.keepIn K (.ref fM7) = true)
    (aM8 : PySem.W.findIn K (.ref C) "end" = some (some (.ref fM8)))
    (iM8 : PySem.W.isFn K (.ref fM8) = true)
    (lM8 : K.lookup fM8 = some ⟨ocM8, odM8, .func (PySem.W.fnOf "end" "Web.end" (defArgs sEnd) (defBody sEnd) (defScope sEnd) .none kVM8 dcM8 pmM8 anM8 cdM8 ctM8), slM8⟩)
    (cM8 : PySem.W.codeIn K cdM8 "Web.end" = true)
    (kM8 : PySem.W.keepIn K (.ref fM8) = true)
    (aM9 : PySem.W.findIn K (.ref C) "outs" = some (some (.ref fM9)))
    (iM9 : PySem.W.isFn K (.ref fM9) = true)
    (lM9 : K.lookup fM9 = some ⟨ocM9, odM9, .func (PySem.W.fnOf "outs" "Web.outs" (defArgs sOuts) (defBody sOuts) (defScope sOuts) .none kVM9 dcM9 pmM9 anM9 cdM9 ctM9), slM9⟩)
    (cM9 : PySem.W.codeIn K cdM9 "Web.outs" = true)
    (kM9 : PySem.W.keepIn K (.ref fM9) = true)
    (aN1 : PySem.W.findIn K (.ref C) "ins" = some (some (.ref fN1)))
    (iN1 : PySem.W.isFn K (.ref fN1) = true)
    (lN1 : K.lookup fN1 = some ⟨ocN1, odN1, .func (PySem.W.fnOf "ins" "Web.ins" (defArgs sIns) (defBody sIns) (defScope sIns) .none kVN1 dcN1 pmN1 anN1 cdN1 ctN1), slN1⟩)
    (cN1 : PySem.W.codeIn K cdN1 "Web.ins" = true)
    (kN1 : PySem.W.keepIn K (.ref fN1) = true)
    (aN2 : PySem.W.findIn K (.ref C) "leading" = some (some (.ref fN2)))
    (iN2 : PySem.W.isFn K (.ref fN2) = true)
    (lN2 : K.lookup fN2 = some ⟨ocN2, odN2, .func (PySem.W.fnOf "leading" "Web.leading" (defArgs sLeading) (defBody sLeading) (defScope sLeading) .none kVN2 dcN2 pmN2 anN2 cdN2 ctN2), slN2⟩)
    (cN2 : PySem.W.codeIn K cdN2 "Web.leading" = true)
    (kN2 : PySem.W.keepIn K (.ref fN2) = true)
    (aN3 : PySem.W.findIn K (.ref C) "has_arrow" = some (some (.ref fN3)))
    (iN3 : PySem.W.isFn K (.ref fN3) = true)
    (lN3 : K.lookup fN3 = some ⟨ocN3, odN3, .func (PySem.W.fnOf "has_arrow" "Web.has_arrow" (defArgs sHas) (defBody sHas) (defScope sHas) .none kVN3 dcN3 pmN3 anN3 cdN3 ctN3), slN3⟩)
    (cN3 : PySem.W.codeIn K cdN3 "Web.has_arrow" = true)
    (kN3 : PySem.W.keepIn K (.ref fN3) = true)
    (aN4 : PySem.W.findIn K (.ref C) "need_arrow" = some (some (.ref fN4)))
    (iN4 : PySem.W.isFn K (.ref fN4) = true)
    (lN4 : K.lookup fN4 = some ⟨ocN4, odN4, .func (PySem.W.fnOf "need_arrow" "Web.need_arrow" (defArgs sNeedA) (defBody sNeedA) (defScope sNeedA) .none kVN4 dcN4 pmN4 anN4 cdN4 ctN4), slN4⟩)
    (cN4 : PySem.W.codeIn K cdN4 "Web.need_arrow" = true)
    (kN4 : PySem.W.keepIn K (.ref fN4) = true)
    (aN5 : PySem.W.findIn K (.ref C) "need_room" = some (some (.ref fN5)))
    (iN5 : PySem.W.isFn K (.ref fN5) = true)
    (lN5 : K.lookup fN5 = some ⟨ocN5, odN5, .func (PySem.W.fnOf "need_room" "Web.need_room" (defArgs sNeedR) (defBody sNeedR) (defScope sNeedR) .none kVN5 dcN5 pmN5 anN5 cdN5 ctN5), slN5⟩)
    (cN5 : PySem.W.codeIn K cdN5 "Web.need_room" = true)
    (kN5 : PySem.W.keepIn K (.ref fN5) = true)
    (pg : PySem.W.plainGet K C Str.empty = true)
    (hd : PySem.W.hasDictIn K C = true)
    (po : PySem.W.plainOver K C = true)
    (sa : PySem.W.findIn K (.ref C) "__setattr__" = some (some (.builtin "object.__setattr__")))
    (mk : PySem.W.makesIn K C = true)
    (kc : PySem.W.keepIn K (.ref C) = true)
    (n1 : PySem.W.findIn K (.ref C) "room_total" = some none)
    (n2 : PySem.W.findIn K (.ref C) "pairs" = some none)
    (n3 : PySem.W.findIn K (.ref C) "leaving" = some none)
    (n4 : PySem.W.findIn K (.ref C) "entering" = some none)
    (ha : PySem.W.findIn K (.ref C) "__class__" = some (some (.builtin "object.__class__")))
    (hn : PySem.W.specialIn K (.builtin "object.__class__") "__get__" = some (some (.builtin "getset_descriptor.__get__")))
    (ht : PySem.W.takesIn K (.builtin "object.__class__") = some true)
    (hm : PySem.W.mroIn K C (.type "object") = some true)
    (kI : PySem.W.isClsIn K C = true)
    (kY : PySem.W.typeIn K (.ref C) = some (.type "type"))
    (kS : PySem.W.subIn K (.type "tuple") (.ref C) = some false)
    (nf : PySem.W.notFirst K C (.type "tuple") = true)
    (ne : PySem.W.findIn K (.ref C) "__ne__" = some (some (.builtin "object.__ne__")))
    (mr : PySem.W.nsIn K mainGlobals "MOST_ROOMS" = some (some (.int 100 t1)))
    (ma : PySem.W.nsIn K mainGlobals "MOST_ARROWS" = some (some (.int 400 t4)))
    (zlen : PySem.W.nsIn K mainGlobals "len" = some none)
    (zlist : PySem.W.nsIn K mainGlobals "list" = some none)
    (ztuple : PySem.W.nsIn K mainGlobals "tuple" = some none)
    (zrange : PySem.W.nsIn K mainGlobals "range" = some none)
    (zenumerate : PySem.W.nsIn K mainGlobals "enumerate" = some none)
    (zisinstance : PySem.W.nsIn K mainGlobals "isinstance" = some none)
    (zall : PySem.W.nsIn K mainGlobals "all" = some none)
    (zzip : PySem.W.nsIn K mainGlobals "zip" = some none)
    (zbool : PySem.W.nsIn K mainGlobals "bool" = some none)
    (zint : PySem.W.nsIn K mainGlobals "int" = some none)
    (zstr : PySem.W.nsIn K mainGlobals "str" = some none)
    (zrepr : PySem.W.nsIn K mainGlobals "repr" = some none) :
    ∃ fd : FuncData, (∀ (s : Shared) (v : Value), BindsTo s fd ⟨[v], []⟩ [("_law_script", v)]) ∧ ∀ base : Heap, K.In base → base.Ns mainGlobals mg → FnOk l.prog w K mg base CX0 6 fa fd ["_law_script"] (spLaw K) := by
  have e := hfa.symm.trans (PySem.W.mg_of X G aB6)
  cases e
  have FA1 := fun_mk (st := sIsPair) lA1 cA1 kA1
  have bA1 := FA1.binds (ps := ["thing", "rooms"]) fun _ _ _ _ _ _ us hl => match us, hl with | [_, _], _ => rfl
  have mA1 := PySem.W.mg_of X G aA1
  have FA2 := fun_mk (st := sPairsOf) lA2 cA2 kA2
  have bA2 := FA2.binds (ps := ["rooms", "arrows"]) fun _ _ _ _ _ _ us hl => match us, hl with | [_, _], _ => rfl
  have mA2 := PySem.W.mg_of X G aA2
  have FA3 := fun_mk (st := sGathered) lA3 cA3 kA3
  have bA3 := FA3.binds (ps := ["rooms", "places"]) fun _ _ _ _ _ _ us hl => match us, hl with | [_, _], _ => rfl
  have mA3 := PySem.W.mg_of X G aA3
  have FA4 := fun_mk (st := sBag) lA4 cA4 kA4
  have bA4 := FA4.binds (ps := ["_law_script"]) fun _ _ _ _ _ _ us hl => match us, hl with | [_], _ => rfl
  have mA4 := PySem.W.mg_of X G aA4
  have FA5 := fun_mk (st := sPull) lA5 cA5 kA5
  have bA5 := FA5.binds (ps := ["_law_bag_here", "_law_many"]) fun _ _ _ _ _ _ us hl => match us, hl with | [_, _], _ => rfl
  have mA5 := PySem.W.mg_of X G aA5
  have FA6 := fun_mk (st := sSame) lA6 cA6 kA6
  have bA6 := FA6.binds (ps := ["_law_found", "_law_due"]) fun _ _ _ _ _ _ us hl => match us, hl with | [_, _], _ => rfl
  have mA6 := PySem.W.mg_of X G aA6
  have FA7 := fun_mk (st := sMixed) lA7 cA7 kA7
  have bA7 := FA7.binds (ps := ["_law_bag_here", "_law_some"]) fun _ _ _ _ _ _ us hl => match us, hl with | [_, _], _ => rfl
  have mA7 := PySem.W.mg_of X G aA7
  have FA8 := fun_mk (st := sWeb) lA8 cA8 kA8
  have bA8 := FA8.binds (ps := ["_law_bag_here", "_law_rooms_most", "_law_more_most"]) fun _ _ _ _ _ _ us hl => match us, hl with | [_, _, _], _ => rfl
  have mA8 := PySem.W.mg_of X G aA8
  have FA9 := fun_mk (st := sMade) lA9 cA9 kA9
  have bA9 := FA9.binds (ps := ["_law_w"]) fun _ _ _ _ _ _ us hl => match us, hl with | [_], _ => rfl
  have mA9 := PySem.W.mg_of X G aA9
  have FB1 := fun_mk (st := sLOuts) lB1 cB1 kB1
  have bB1 := FB1.binds (ps := ["_law_w", "_law_room"]) fun _ _ _ _ _ _ us hl => match us, hl with | [_, _], _ => rfl
  have mB1 := PySem.W.mg_of X G aB1
  have FB2 := fun_mk (st := sLIns) lB2 cB2 kB2
  have bB2 := FB2.binds (ps := ["_law_w", "_law_room"]) fun _ _ _ _ _ _ us hl => match us, hl with | [_, _], _ => rfl
  have mB2 := PySem.W.mg_of X G aB2
  have FB3 := fun_mk (st := sLNamed) lB3 cB3 kB3
  have bB3 := FB3.binds (ps := ["_law_w", "_law_rooms", "_law_arrows"]) fun _ _ _ _ _ _ us hl => match us, hl with | [_, _, _], _ => rfl
  have mB3 := PySem.W.mg_of X G aB3
  have FB4 := fun_mk (st := sLNaming) lB4 cB4 kB4
  have bB4 := FB4.binds (ps := ["_law_bag_here", "_law_w"]) fun _ _ _ _ _ _ us hl => match us, hl with | [_, _], _ => rfl
  have mB4 := PySem.W.mg_of X G aB4
  have FB5 := fun_mk (st := sLCount) lB5 cB5 kB5
  have bB5 := FB5.binds (ps := ["_law_w", "_law_one", "_law_other"]) fun _ _ _ _ _ _ us hl => match us, hl with | [_, _, _], _ => rfl
  have mB5 := PySem.W.mg_of X G aB5
  have FB6 := fun_mk (st := sLaw) lB6 cB6 kB6
  have bB6 := FB6.binds (ps := ["_law_script"]) fun _ _ _ _ _ _ us hl => match us, hl with | [_], _ => rfl
  have mB6 := PySem.W.mg_of X G aB6
  have FM1 := fun_mk (st := sInit) lM1 cM1 kM1
  have bM1 := FM1.binds (ps := ["self", "rooms", "arrows"]) fun _ _ _ _ _ _ us hl => match us, hl with | [_, _, _], _ => rfl
  have mM1 : Meth K C "__init__" fM1 := ⟨aM1, iM1, kM1⟩
  have FM2 := fun_mk (st := sEq) lM2 cM2 kM2
  have bM2 := FM2.binds (ps := ["self", "other"]) fun _ _ _ _ _ _ us hl => match us, hl with | [_, _], _ => rfl
  have mM2 : Meth K C "__eq__" fM2 := ⟨aM2, iM2, kM2⟩
  have FM3 := fun_mk (st := sLen) lM3 cM3 kM3
  have bM3 := FM3.binds (ps := ["self"]) fun _ _ _ _ _ _ us hl => match us, hl with | [_], _ => rfl
  have mM3 : Meth K C "__len__" fM3 := ⟨aM3, iM3, kM3⟩
  have FM4 := fun_mk (st := sRepr) lM4 cM4 kM4
  have bM4 := FM4.binds (ps := ["self"]) fun _ _ _ _ _ _ us hl => match us, hl with | [_], _ => rfl
  have mM4 : Meth K C "__repr__" fM4 := ⟨aM4, iM4, kM4⟩
  have FM5 := fun_mk (st := sRooms) lM5 cM5 kM5
  have bM5 := FM5.binds (ps := ["self"]) fun _ _ _ _ _ _ us hl => match us, hl with | [_], _ => rfl
  have mM5 : Meth K C "rooms" fM5 := ⟨aM5, iM5, kM5⟩
  have FM6 := fun_mk (st := sArrows) lM6 cM6 kM6
  have bM6 := FM6.binds (ps := ["self"]) fun _ _ _ _ _ _ us hl => match us, hl with | [_], _ => rfl
  have mM6 : Meth K C "arrows" fM6 := ⟨aM6, iM6, kM6⟩
  have FM7 := fun_mk (st := sBegin) lM7 cM7 kM7
  have bM7 := FM7.binds (ps := ["self", "arrow"]) fun _ _ _ _ _ _ us hl => match us, hl with | [_, _], _ => rfl
  have mM7 : Meth K C "begin" fM7 := ⟨aM7, iM7, kM7⟩
  have FM8 := fun_mk (st := sEnd) lM8 cM8 kM8
  have bM8 := FM8.binds (ps := ["self", "arrow"]) fun _ _ _ _ _ _ us hl => match us, hl with | [_, _], _ => rfl
  have mM8 : Meth K C "end" fM8 := ⟨aM8, iM8, kM8⟩
  have FM9 := fun_mk (st := sOuts) lM9 cM9 kM9
  have bM9 := FM9.binds (ps := ["self", "room"]) fun _ _ _ _ _ _ us hl => match us, hl with | [_, _], _ => rfl
  have mM9 : Meth K C "outs" fM9 := ⟨aM9, iM9, kM9⟩
  have FN1 := fun_mk (st := sIns) lN1 cN1 kN1
  have bN1 := FN1.binds (ps := ["self", "room"]) fun _ _ _ _ _ _ us hl => match us, hl with | [_, _], _ => rfl
  have mN1 : Meth K C "ins" fN1 := ⟨aN1, iN1, kN1⟩
  have FN2 := fun_mk (st := sLeading) lN2 cN2 kN2
  have bN2 := FN2.binds (ps := ["self", "one", "other"]) fun _ _ _ _ _ _ us hl => match us, hl with | [_, _, _], _ => rfl
  have mN2 : Meth K C "leading" fN2 := ⟨aN2, iN2, kN2⟩
  have FN3 := fun_mk (st := sHas) lN3 cN3 kN3
  have bN3 := FN3.binds (ps := ["self", "arrow"]) fun _ _ _ _ _ _ us hl => match us, hl with | [_, _], _ => rfl
  have mN3 : Meth K C "has_arrow" fN3 := ⟨aN3, iN3, kN3⟩
  have FN4 := fun_mk (st := sNeedA) lN4 cN4 kN4
  have bN4 := FN4.binds (ps := ["self", "arrow"]) fun _ _ _ _ _ _ us hl => match us, hl with | [_, _], _ => rfl
  have mN4 : Meth K C "need_arrow" fN4 := ⟨aN4, iN4, kN4⟩
  have FN5 := fun_mk (st := sNeedR) lN5 cN5 kN5
  have bN5 := FN5.binds (ps := ["self", "room"]) fun _ _ _ _ _ _ us hl => match us, hl with | [_, _], _ => rfl
  have mN5 : Meth K C "need_room" fN5 := ⟨aN5, iN5, kN5⟩
  have glen := PySem.W.mg_none_of X G zlen
  have glist := PySem.W.mg_none_of X G zlist
  have gtuple := PySem.W.mg_none_of X G ztuple
  have grange := PySem.W.mg_none_of X G zrange
  have genumerate := PySem.W.mg_none_of X G zenumerate
  have gisinstance := PySem.W.mg_none_of X G zisinstance
  have gall := PySem.W.mg_none_of X G zall
  have gzip := PySem.W.mg_none_of X G zzip
  have gbool := PySem.W.mg_none_of X G zbool
  have gint := PySem.W.mg_none_of X G zint
  have gstr := PySem.W.mg_none_of X G zstr
  have grepr := PySem.W.mg_none_of X G zrepr
  have mC := PySem.W.mg_of X G aC
  have T : WebC K C := ⟨⟨pg, hd, po, sa⟩, n1, n2, n3, n4⟩
  have TQ : WebQ K C := ⟨ha, hn, ht, hm, kit_own, kit_of kI kY rfl kS⟩
  have M : SameM mg := ⟨gisinstance, glist, gtuple, glen, gall, gzip, gbool, gint, gstr⟩
  have MI : Mk K C fM1 := ⟨mk, aM1, iM1, kc⟩
  refine ⟨PySem.W.fnOf "law" "law" (defArgs sLaw) (defBody sLaw) (defScope sLaw) .none kVB6 dcB6 pmB6 anB6 cdB6 ctB6, fun s v => .of_eq rfl, fun base _ _ => ?_⟩
  have G1 := ok_is_pair (P := l.prog) (w := w) (mg := mg) (base := base) FA1 glen
  have G2 := ok_pairs_of FA2 G1 bA1 mA1 kA1 genumerate gtuple (PySem.W.mg_of X G ma)
  have G3 := ok_gathered (P := l.prog) (w := w) (mg := mg) (base := base) FA3 grange genumerate gtuple
  have G4 := ok_bag (P := l.prog) (w := w) (mg := mg) (base := base) FA4 glist
  have G5 := ok_pull (P := l.prog) (w := w) (mg := mg) (base := base) FA5 glen
  have G6 := ok_same (P := l.prog) (w := w) (mg := mg) (base := base) FA6 M bA6 mA6 kA6 3
  have G7 := ok_mixed FA7 G5 bA5 mA5 kA5 glen glist grange
  have G8 := ok_web FA8 G5 bA5 mA5 kA5 G7 bA7 mA7 kA7 grange gtuple
  have H1 := ok_init FM1 T G2 bA2 mA2 kA2 G3 bA3 mA3 kA3 (PySem.W.mg_of X G mr)
  have G9 := ok_made FA9 MI H1 bM1 mC glist
  have J1 := ok_louts (P := l.prog) (w := w) (mg := mg) (base := base) FB1 genumerate
  have J2 := ok_lins (P := l.prog) (w := w) (mg := mg) (base := base) FB2 genumerate
  have J3 := ok_named (P := l.prog) (w := w) (mg := mg) (base := base) FB3 genumerate glen gtuple
  have J4 := ok_naming FB4 G7 bA7 mA7 kA7 grange glist glen
  have J5 := ok_lcount (P := l.prog) (w := w) (mg := mg) (base := base) FB5
  have H2 := ok_eq (P := l.prog) (w := w) (mg := mg) (base := base) FM2 T TQ gisinstance mC
  have H3 := ok_len (P := l.prog) (w := w) (mg := mg) (base := base) FM3 T glen
  have H4 := ok_repr (P := l.prog) (w := w) (mg := mg) (base := base) FM4 T glen
  have H5 := ok_rooms (P := l.prog) (w := w) (mg := mg) (base := base) FM5 T
  have H6 := ok_arrows (P := l.prog) (w := w) (mg := mg) (base := base) FM6 T glist
  have L3 := ok_has (P := l.prog) (w := w) (mg := mg) (base := base) FN3 T glen
  have L4 := ok_need_arrow FN4 T L3 bN3 mN3
  have L5 := ok_need_room (P := l.prog) (w := w) (mg := mg) (base := base) FN5 T
  have H7 := ok_begin FM7 T L4 bN4 mN4
  have H8 := ok_end FM8 T L4 bN4 mN4
  have H9 := ok_outs FM9 T L5 bN5 mN5 glist
  have L1 := ok_ins FN1 T L5 bN5 mN5 glist
  have L2 := ok_leading FN2 T L5 bN5 mN5
  exact ok_law FB6 {
    T := T, TQ := TQ, mC := mC, M := M, range := grange, enum := genumerate, repr := grepr, nf := nf, ne := ne
    bag := ⟨_, _, G4, bA4, mA4, kA4⟩
    pull := ⟨_, _, G5, bA5, mA5, kA5⟩
    web := ⟨_, _, G8, bA8, mA8, kA8⟩
    init := ⟨_, _, H1, bM1, MI⟩
    made := ⟨_, _, G9, bA9, mA9, kA9⟩
    same := ⟨_, _, G6, bA6, mA6, kA6⟩
    louts := ⟨_, _, J1, bB1, mB1, kB1⟩
    lins := ⟨_, _, J2, bB2, mB2, kB2⟩
    lcount := ⟨_, _, J5, bB5, mB5, kB5⟩
    naming := ⟨_, _, J4, bB4, mB4, kB4⟩
    named := ⟨_, _, J3, bB3, mB3, kB3⟩
    rooms := ⟨_, _, H5, bM5, mM5⟩
    arrows := ⟨_, _, H6, bM6, mM6⟩
    begin_ := ⟨_, _, H7, bM7, mM7⟩
    end_ := ⟨_, _, H8, bM8, mM8⟩
    outs := ⟨_, _, H9, bM9, mM9⟩
    ins := ⟨_, _, L1, bN1, mN1⟩
    leading := ⟨_, _, L2, bN2, mN2⟩
    len := ⟨_, _, H3, bM3, aM3, iM3⟩
    rep := ⟨_, _, H4, bM4, aM4, iM4⟩
    eq := ⟨_, _, H2, bM2, aM2, iM2⟩ }
theorem walk {l : PySem.W.OpenLaw} {q : Program} {loose : List Str} {XP : (Str → Option Value) → Heap → Prop} {YP : World → Heap → Prop} {d : DefRec} {K : Params → PySem.W.Frag} (hn : l.most = some 63) (hdf : d.params.defaults = [])
    (hY : ∀ (w : World) (h : Heap), YP w h → (K w.params).In h)
    (F : ∀ (w : World) (mg : Str → Option Value) (fa : Addr) (h : Heap), (K w.params).In h → h.Ns mainGlobals mg → mg d.name = some (.ref fa) →
      ∃ fd : FuncData, (∀ (s : Shared) (u : Value), BindsTo s fd ⟨[u], []⟩ [("_law_script", u)]) ∧ ∀ base : Heap, (K w.params).In base → base.Ns mainGlobals mg → FnOk l.prog w (K w.params) mg base CX0 6 fa fd ["_law_script"] (spLaw (K w.params))) :
    PySem.W.WalkO q loose XP YP l.row.toRowW d [] (fun f vs => PySem.call f vs) :=
  L2.walk_of (n := 63) (k := 6) (x := "_law_script") (CX := fun _ => CX0) (sp := fun w => spLaw (K w.params)) hn (by decide) hdf ⟨rfl, by decide, by decide⟩ hY F (fun _ _ a ns _ _ hS => ⟨a, ns, rfl, hS, fun _ => rfl⟩) fun _ _ _ _ _ z => z
end KW
open PySem PySem.W PyProof.Rows in
set_option maxRecDepth 100000 in
set_option maxHeartbeats 0 in
theorem PySem.Challenge.cw_aheadfold_k01_webs_made_holds : PySem.Challenge.rw_aheadfold_k01_webs_made.Holds := by
  w_on; o_law; k_head; (case hw => w_witness2)
  k_fill
  refine KW.walk (l := PySem.Challenge.rw_aheadfold_k01_webs_made) rfl rfl (fun w h Y => PySem.W.kIn_of Y) ?F
  case F =>
    intro w mg fa h KX G hmg
    refine' KW.all_mk KX G hmg ?aC ?aA1 ?lA1 ?cA1 ?kA1 ?aA2 ?lA2 ?cA2 ?kA2 ?aA3 ?lA3 ?cA3 ?kA3 ?aA4 ?lA4 ?cA4 ?kA4 ?aA5 ?lA5 ?cA5 ?kA5 ?aA6 ?lA6 ?cA6 ?kA6 ?aA7 ?lA7 ?cA7 ?kA7 ?aA8 ?lA8 ?cA8 ?kA8 ?aA9 ?lA9 ?cA9 ?kA9 ?aB1 ?lB1 ?cB1 ?kB1 ?aB2 ?lB2 ?cB2 ?kB2 ?aB3 ?lB3 ?cB3 ?kB3 ?aB4 ?lB4 ?cB4 ?kB4 ?aB5 ?lB5 ?cB5 ?kB5 ?aB6 ?lB6 ?cB6 ?kB6 ?aM1 ?iM1 ?lM1 ?cM1 ?kM1 ?aM2 ?iM2 ?lM2 ?cM2 ?kM2 ?aM3 ?iM3 ?lM3 ?cM3 ?kM3 ?aM4 ?iM4 ?lM4 ?cM4 ?kM4 ?aM5 ?iM5 ?lM5 ?cM5 ?kM5 ?aM6 ?iM6 ?lM6 ?cM6 ?kM6 ?aM7 ?iM7 ?lM7 ?cM7 ?kM7 ?aM8 ?iM8 ?lM8 ?cM8 ?kM8 ?aM9 ?iM9 ?lM9 ?cM9 ?kM9 ?aN1 ?iN1 ?lN1 ?cN1 ?kN1 ?aN2 ?iN2 ?lN2 ?cN2 ?kN2 ?aN3 ?iN3 ?lN3 ?cN3 ?kN3 ?aN4 ?iN4 ?lN4 ?cN4 ?kN4 ?aN5 ?iN5 ?lN5 ?cN5 ?kN5 ?pg ?hd ?po ?sa ?mk ?kc ?n1 ?n2 ?n3 ?n4 ?ha ?hn ?ht ?hm ?kI ?kY ?kS ?nf ?ne ?mr ?ma ?zlen ?zlist ?ztuple ?zrange ?zenumerate ?zisinstance ?zall ?zzip ?zbool ?zint ?zstr ?zrepr
    (case aC => k_is)
    (case aA1 => k_is)
    (case lA1 => k_is)
    (case cA1 => k_is)
    (case kA1 => k_is)
    (case aA2 => k_is)
    (case lA2 => k_is)
    (case cA2 => k_is)
    (case kA2 => k_is)
    (case aA3 => k_is)
    (case lA3 => k_is)
    (case cA3 => k_is)
    (case kA3 => k_is)
    (case aA4 => k_is)
    (case lA4 => k_is)
    (case cA4 => k_is)
    (case kA4 => k_is)
    (case aA5 => k_is)
    (case lA5 => k_is)
    (case cA5 => k_is)
    (case kA5 => k_is)
    (case aA6 => k_is)
    (case lA6 => k_is)
    (case cA6 => k_is)
    (case kA6 => k_is)
    (case aA7 => k_is)
    (case lA7 => k_is)
    (case cA7 => k_is)
    (case kA7 => k_is)
    (case aA8 => k_is)
    (case lA8 => k_is)
    (case cA8 => k_is)
    (case kA8 => k_is)
    (case aA9 => k_is)
    (case lA9 => k_is)
    (case cA9 => k_is)
    (case kA9 => k_is)
    (case aB1 => k_is)
    (case lB1 => k_is)
    (case cB1 => k_is)
    (case kB1 => k_is)
    (case aB2 => k_is)
    (case lB2 => k_is)
    (case cB2 => k_is)
    (case kB2 => k_is)
    (case aB3 => k_is)
    (case lB3 => k_is)
    (case cB3 => k_is)
    (case kB3 => k_is)
    (case aB4 => k_is)
    (case lB4 => k_is)
    (case cB4 => k_is)
    (case kB4 => k_is)
    (case aB5 => k_is)
    (case lB5 => k_is)
    (case cB5 => k_is)
    (case kB5 => k_is)
    (case aB6 => k_is)
    (case lB6 => k_is)
    (case cB6 => k_is)
    (case kB6 => k_is)
    (case aM1 => k_is)
    (case iM1 => k_is)
    (case lM1 => k_is)
    (case cM1 => k_is)
    (case kM1 => k_is)
    (case aM2 => k_is)
    (case iM2 => k_is)
    (case lM2 => k_is)
    (case cM2 => k_is)
    (case kM2 => k_is)
    (case aM3 => k_is)
    (case iM3 => k_is)
    (case lM3 => k_is)
    (case cM3 => k_is)
    (case kM3 => k_is)
    (case aM4 => k_is)
    (case iM4 => k_is)
    (case lM4 => k_is)
    (case cM4 => k_is)
    (case kM4 => k_is)
    (case aM5 => k_is)
    (case iM5 => k_is)
    (case lM5 => k_is)
    (case cM5 => k_is)
    (case kM5 => k_is)
    (case aM6 => k_is)
    (case iM6 => k_is)
    (case lM6 => k_is)
    (case cM6 => k_is)
    (case kM6 => k_is)
    (case aM7 => k_is)
    (case iM7 => k_is)
    (case lM7 => k_is)
    (case cM7 => k_is)
    (case kM7 => k_is)
    (case aM8 => k_is)
    (case iM8 => k_is)
    (case lM8 => k_is)
    (case cM8 => k_is)
    (case kM8 => k_is)
    (case aM9 => k_is)
    (case iM9 => k_is)
    (case lM9 => k_is)
    (case cM9 => k_is)
    (case kM9 => k_is)
    (case aN1 => k_is)
    (case iN1 => k_is)
    (case lN1 => k_is)
    (case cN1 => k_is)
    (case kN1 => k_is)
    (case aN2 => k_is)
    (case iN2 => k_is)
    (case lN2 => k_is)
    (case cN2 => k_is)
    (case kN2 => k_is)
    (case aN3 => k_is)
    (case iN3 => k_is)
    (case lN3 => k_is)
    (case cN3 => k_is)
    (case kN3 => k_is)
    (case aN4 => k_is)
    (case iN4 => k_is)
    (case lN4 => k_is)
    (case cN4 => k_is)
    (case kN4 => k_is)
    (case aN5 => k_is)
    (case iN5 => k_is)
    (case lN5 => k_is)
    (case cN5 => k_is)
    (case kN5 => k_is)
    (case pg => k_is)
    (case hd => k_is)
    (case po => k_is)
    (case sa => k_is)
    (case mk => k_is)
    (case kc => k_is)
    (case n1 => k_is)
    (case n2 => k_is)
    (case n3 => k_is)
    (case n4 => k_is)
    (case ha => k_is)
    (case hn => k_is)
    (case ht => k_is)
    (case hm => k_is)
    (case kI => k_is)
    (case kY => k_is)
    (case kS => k_is)
    (case nf => k_is)
    (case ne => k_is)
    (case mr => k_is)
    (case ma => k_is)
    (case zlen => k_is)
    (case zlist => k_is)
    (case ztuple => k_is)
    (case zrange => k_is)
    (case zenumerate => k_is)
    (case zisinstance => k_is)
    (case zall => k_is)
    (case zzip => k_is)
    (case zbool => k_is)
    (case zint => k_is)
    (case zstr => k_is)
    (case zrepr => k_is)
