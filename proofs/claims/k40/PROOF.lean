import PyProof.Rows.All
import Wide.All
import OpenK.AllK
import Wide.FinOn
import KE.KStateDown
import Lean
import HandS.ForMost
import HandS.ForExc
import HandS.Codes
import HandS.ExcInit
import HandS.Lambda
import HandS.EndOwn
import HandS.Defaults
import HandS.Head0
import HandS.Head1
import HandS.Head2
import HandS.HeadEnd
import HandS.HeadHook1
import HandS.HeadHook2
import HandS.Wide
import HandS.Walk
import KE.KNestM
import PyProof.P3In
import PyProof.Rows.InDataRows
import HandS.IsInst
import KE.GoesMore
import KE.GoesEnum
import KE.DataFind
import PyProof.InstNe
import PyProof.InstEq
import OpenK.KOps
import OpenK.KMake
import HandS.TupAny
import HandS.ClsMeth
import HandS.ExcCtx
import HandS.HotCalls
import HandS.ExcInitHot
import HandS.Conv
import KE.KDictKeyed
import KE.KDictWalk
import HandS.Sort
import HandS.SortRule
import HandS.SortInts
import HandS.FStr
import HandS.Zip
import HandS.SetFor
import HandS.TupMul
import HandS.NoneIn
import PyProof.Rows.Chain
import HandS.Deep
import HandS.Strs
import HandS.SortOrd
import HandS.DictComp
import PyProof.SumAny
import HandS.Iter
import HandS.Dict
import HandS.DictTup
import PyProof.DictMoreH
import KE.KDictCopyH
import HandS.TupSets
import KE.KDictPairs
import HandS.DictEq
import KE.KEqNest
import HandS.DeepEq
import HandS.More
import PyProof.Rows.SeqRoads
import HandS.Style
import KE.KDictDisplayH
import HandS.SetKeys
import KE.KTryMore
import HandS.ExcIs
import HandS.ExcField
import KE.KExcIs
import HandS.Hot
import HandS.Comp
import KE.GoesZip
import HandS.Text
import HandS.Words
import KE.KDictList
import HandS.FStrTup
import KE.SortData
import KE.KeyNested
import PySem.Challenge.RW_aheadfold_k40_namings_of_rooms_of_two_we
set_option Elab.async false
set_option maxRecDepth 100000
set_option maxHeartbeats 2000000
namespace KW
open PySem PySem.Spec PyProof.Rows L2 LamX
/-- the objects at these places, tables left out -/
def frM (g : Addr → Option Obj) : List Addr → PySem.W.Frag
  | [] => []
  | b :: r => match g b with
    | none => frM g r
    | some ⟨c, d, t, s⟩ => match c, t with
      | .none, .fields _ => frM g r
      | c, t => (b, ⟨c, d, t, s⟩) :: frM g r
theorem look_cons {a b : Addr} {u o : Obj} {r : PySem.W.Frag} (e : List.lookup a ((b, u) :: r) = some o) : (a = b ∧ u = o) ∨ r.lookup a = some o := by
  rw [List.lookup_cons] at e
  split at e
  · rename_i q
    exact .inl ⟨beq_iff_eq.mp q, Option.some.inj e⟩
  · exact .inr e
theorem frM_at {g : Addr → Option Obj} {a : Addr} {o : Obj} : ∀ as : List Addr, (frM g as).lookup a = some o → g a = some o
  | [], e => nomatch (show (none : Option Obj) = some o from e)
  | b :: r, e => by
    have ih := frM_at (g := g) (a := a) (o := o) r
    unfold frM at e
    split at e
    · exact ih e
    · rename_i c d t s hb
      split at e
      · exact ih e
      · rcases look_cons e with ⟨e1, e2⟩ | e1
        · rw [e1, hb, e2]
        · exact ih e1
theorem frM_in {as : List Addr} {h : Heap} : (frM h.get? as).In h := fun _ _ e => frM_at as e
/-- what of an object is looked at next: a name space's values, a class's name space, a def's code and defaults -/
def refsM (o : Obj) : List Addr := match o.data with
  | .dict es _ => es.toList.flatMap fun e => He.refV e.val
  | .func fd => He.refV fd.code ++ He.refV fd.defaults ++ He.refV fd.kwdefaults
  | .cls cd => [cd.ns]
  | _ => (match o.dict with
    | some d => [d]
    | none => [])
def nextM (g : Addr → Option Obj) (as : List Addr) : List Addr := as.flatMap fun a => match g a with
  | some o => refsM o
  | none => []
/-- what is reached in n steps, step by step -/
def asM (g : Addr → Option Obj) : Nat → List Addr → List Addr
  | 0, as => as
  | n + 1, as => as ++ asM g n (nextM g as)
/-- one fact of the written part -/
abbrev Fct : Type := PySem.W.Frag → Bool
def obsM (fa : List Fct) (fn : List He.DefD) (K : PySem.W.Frag) : He.AlD := ((fa.all fun f => f K) && (fn.all fun d => d.ok K), fn.map fun d => He.fnW K d.at_)
def SaysM (fa : List Fct) (fn : List He.DefD) (K : PySem.W.Frag) : Prop := obsM fa fn K = He.valD fn
def obsMG (n : Nat) (fa : List Fct) (fn : List He.DefD) (g : Addr → Option Obj) : He.AlD := obsM fa fn (frM g (cStatics :: asM g n [mainGlobals]))
def hookM (n : Nat) (fa : List Fct) (fn : List He.DefD) : PySem.W.Hook where
  α := He.AlD
  obs := fun st => obsMG n fa fn st.heap.get?
  val := fun _ => He.valD fn
  says := fun _ hp => ∃ K : PySem.W.Frag, K.In hp ∧ SaysM fa fn K
  of := fun _ _ eq => ⟨_, frM_in, eq⟩
  keeps := fun _ _ _ ⟨K, inK, says⟩ kept => ⟨K, PySem.W.Frag.In.keeps inK kept, says⟩
theorem obsMG_eq {n : Nat} {fa : List Fct} {fn : List He.DefD} {g : Addr → Option Obj} {st : Shared} (h : ∀ a, g a = st.heap.get? a) : obsMG n fa fn g = (hookM n fa fn).obs st := by
  have eg : g = st.heap.get? := funext h
  rw [eg]
  rfl
/-- the run in parts: each is one run of the kernel's own, so that none takes all the memory -/
def allMG (n : Nat) (fa : List Fct) (g : Addr → Option Obj) : Bool := fa.all fun f => f (frM g (cStatics :: asM g n [mainGlobals]))
theorem run_pair {S A B C : Type} {X : Option S} {f : S → A} {g : S → B} {h : S → C} {a : A} {b : B} {c : C} (e1 : X.map (fun s => (f s, g s)) = some (a, b)) (e2 : X.map h = some c) : X.map (fun s => (f s, g s, h s)) = some (a, b, c) := by
  cases X with
  | none => cases e1
  | some s =>
    obtain ⟨rfl, rfl⟩ := Prod.mk.inj (Option.some.inj e1)
    cases Option.some.inj e2
    rfl
theorem run_facts {S : Type} {X : Option S} {n : Nat} {fa : List Fct} {fn : List He.DefD} {g : S → Addr → Option Obj} (e1 : X.map (fun s => allMG n fa (g s)) = some true) (e2 : X.map (fun s => obsMG n [] fn (g s)) = some (He.valD fn)) : X.map (fun s => obsMG n fa fn (g s)) = some (He.valD fn) := by
  cases X with
  | none => cases e1
  | some s =>
    have h1 : allMG n fa (g s) = true := Option.some.inj e1
    obtain ⟨h2, h3⟩ := Prod.mk.inj (Option.some.inj e2)
    refine congrArg some (Prod.ext ?_ h3)
    have h2 : (fn.all fun d => d.ok (frM (g s) (cStatics :: asM (g s) n [mainGlobals]))) = true := h2
    exact Bool.and_eq_true_iff.mpr ⟨h1, h2⟩
section
variable {fa : List Fct} {fn : List He.DefD} {K : PySem.W.Frag}
theorem SaysM.both (c : SaysM fa fn K) : ((fa.all fun f => f K) && (fn.all fun d => d.ok K)) = true := congrArg (fun z : He.AlD => z.1) c
theorem SaysM.fact (c : SaysM fa fn K) (i : Nat) {f : Fct} (h : fa[i]? = some f) : f K = true :=
  List.all_eq_true.mp (Bool.and_eq_true_iff.mp c.both).1 f (List.mem_of_getElem? h)
theorem SaysM.def_ (c : SaysM fa fn K) (i : Nat) {d : He.DefD} (h : fn[i]? = some d) : ∃ fd, FunD K d.name d.qual d.params d.body d.scope (d.dvs K) (d.kws K) (He.fAd K d.at_) fd := by
  have each : fn.map (fun d => He.fnW K d.at_) = fn.map He.DefD.val := congrArg (fun z : He.AlD => z.2) c
  have one : (fn.map fun d => He.fnW K d.at_)[i]? = (fn.map He.DefD.val)[i]? := congrArg (fun l : List He.FnW => l[i]?) each
  rw [List.getElem?_map, List.getElem?_map, h] at one
  exact He.DefD.funD (Option.some.inj one) (List.all_eq_true.mp (Bool.and_eq_true_iff.mp c.both).2 d (List.mem_of_getElem? h))
end
/-- a def without defaults -/
theorem fun_of {K : PySem.W.Frag} {x qual : Str} {st : Stmt} {f : Addr} {fd : FuncData} (D : FunD K x qual (defArgs st) (defBody st) (defScope st) [] [] f fd) : Fun K x qual st f fd := by
  obtain ⟨⟨oc, od, dV, kV, doc, pm, an, cdv, ct, sl, e1, e2, e3, e4, _⟩, kp⟩ := D
  rcases e4 with ⟨_, rfl⟩ | ⟨no, _⟩
  · exact ⟨⟨oc, od, kV, doc, pm, an, cdv, ct, sl, e1, e2, e3⟩, kp⟩
  · exact absurd rfl no
end KW
set_option Elab.async false
set_option maxRecDepth 100000
set_option maxHeartbeats 4000000
namespace KW
open PySem PySem.Spec PyProof.Rows L2 LamX
def topR (i : Nat) : Stmt := PySem.Challenge.pw_aheadfold_k40_namings_of_rooms_of_two_we.main.body.getD i (.Pass ⟨0, 0, 0, 0⟩)
def d__law_bag : He.DefD := ⟨("_law_bag", none), "_law_bag", "_law_bag", defArgs (topR 27), defBody (topR 27), defScope (topR 27), [], []⟩
def d__law_web : He.DefD := ⟨("_law_web", none), "_law_web", "_law_web", defArgs (topR 31), defBody (topR 31), defScope (topR 31), [], []⟩
def d__law_pull : He.DefD := ⟨("_law_pull", none), "_law_pull", "_law_pull", defArgs (topR 28), defBody (topR 28), defScope (topR 28), [], []⟩
def d__law_mixed : He.DefD := ⟨("_law_mixed", none), "_law_mixed", "_law_mixed", defArgs (topR 30), defBody (topR 30), defScope (topR 30), [], []⟩
def d__law_naming : He.DefD := ⟨("_law_naming", none), "_law_naming", "_law_naming", defArgs (topR 34), defBody (topR 34), defScope (topR 34), [], []⟩
def d__law_named : He.DefD := ⟨("_law_named", none), "_law_named", "_law_named", defArgs (topR 33), defBody (topR 33), defScope (topR 33), [], []⟩
def d__law_namings : He.DefD := ⟨("_law_namings", none), "_law_namings", "_law_namings", defArgs (topR 36), defBody (topR 36), defScope (topR 36), [], []⟩
def d__law_orders : He.DefD := ⟨("_law_orders", none), "_law_orders", "_law_orders", defArgs (topR 35), defBody (topR 35), defScope (topR 35), [], []⟩
def d__law_same : He.DefD := ⟨("_law_same", none), "_law_same", "_law_same", defArgs (topR 29), defBody (topR 29), defScope (topR 29), [], []⟩
def d_naming : He.DefD := ⟨("naming", none), "naming", "naming", defArgs (topR 24), defBody (topR 24), defScope (topR 24), [], []⟩
def d_neighbours : He.DefD := ⟨("neighbours", none), "neighbours", "neighbours", defArgs (topR 20), defBody (topR 20), defScope (topR 20), [], []⟩
def d_Web_rooms : He.DefD := ⟨("Web", some "rooms"), "rooms", "Web.rooms", defArgs (inClass (topR 17) 4), defBody (inClass (topR 17) 4), defScope (inClass (topR 17) 4), [], []⟩
def d_Web_ins : He.DefD := ⟨("Web", some "ins"), "ins", "Web.ins", defArgs (inClass (topR 17) 9), defBody (inClass (topR 17) 9), defScope (inClass (topR 17) 9), [], []⟩
def d_Web_need_room : He.DefD := ⟨("Web", some "need_room"), "need_room", "Web.need_room", defArgs (inClass (topR 17) 20), defBody (inClass (topR 17) 20), defScope (inClass (topR 17) 20), [], []⟩
def d_Web_begin : He.DefD := ⟨("Web", some "begin"), "begin", "Web.begin", defArgs (inClass (topR 17) 6), defBody (inClass (topR 17) 6), defScope (inClass (topR 17) 6), [], []⟩
def d_Web_need_arrow : He.DefD := ⟨("Web", some "need_arrow"), "need_arrow", "Web.need_arrow", defArgs (inClass (topR 17) 19), defBody (inClass (topR 17) 19), defScope (inClass (topR 17) 19), [], []⟩
def d_Web_has_arrow : He.DefD := ⟨("Web", some "has_arrow"), "has_arrow", "Web.has_arrow", defArgs (inClass (topR 17) 15), defBody (inClass (topR 17) 15), defScope (inClass (topR 17) 15), [], []⟩
def d_Web_outs : He.DefD := ⟨("Web", some "outs"), "outs", "Web.outs", defArgs (inClass (topR 17) 8), defBody (inClass (topR 17) 8), defScope (inClass (topR 17) 8), [], []⟩
def d_Web_end : He.DefD := ⟨("Web", some "end"), "end", "Web.end", defArgs (inClass (topR 17) 7), defBody (inClass (topR 17) 7), defScope (inClass (topR 17) 7), [], []⟩
def d_coloured : He.DefD := ⟨("coloured", none), "coloured", "coloured", defArgs (topR 22), defBody (topR 22), defScope (topR 22), [], []⟩
def d_looks_of : He.DefD := ⟨("looks_of", none), "looks_of", "looks_of", defArgs (topR 21), defBody (topR 21), defScope (topR 21), [], []⟩
def d_further : He.DefD := ⟨("further", none), "further", "further", defArgs (topR 25), defBody (topR 25), defScope (topR 25), [], []⟩
def d_with_colour : He.DefD := ⟨("with_colour", none), "with_colour", "with_colour", defArgs (topR 23), defBody (topR 23), defScope (topR 23), [], []⟩
def d_Web_leading : He.DefD := ⟨("Web", some "leading"), "leading", "Web.leading", defArgs (inClass (topR 17) 10), defBody (inClass (topR 17) 10), defScope (inClass (topR 17) 10), [], []⟩
def d__law_made : He.DefD := ⟨("_law_made", none), "_law_made", "_law_made", defArgs (topR 32), defBody (topR 32), defScope (topR 32), [], []⟩
def d_Web___init__ : He.DefD := ⟨("Web", some "__init__"), "__init__", "Web.__init__", defArgs (inClass (topR 17) 0), defBody (inClass (topR 17) 0), defScope (inClass (topR 17) 0), [], []⟩
def d_pairs_of : He.DefD := ⟨("pairs_of", none), "pairs_of", "pairs_of", defArgs (topR 15), defBody (topR 15), defScope (topR 15), [], []⟩
def d_is_pair : He.DefD := ⟨("is_pair", none), "is_pair", "is_pair", defArgs (topR 14), defBody (topR 14), defScope (topR 14), [], []⟩
def d_gathered : He.DefD := ⟨("gathered", none), "gathered", "gathered", defArgs (topR 16), defBody (topR 16), defScope (topR 16), [], []⟩
def dLW : He.DefD := ⟨("law", none), "law", "law", defArgs (topR 37), defBody (topR 37), defScope (topR 37), [], []⟩
def fa0 : List Fct := [
  fun K => decide (PySem.W.nsIn K mainGlobals "len" = some none),
  fun K => decide (PySem.W.nsIn K mainGlobals "list" = some none),
  fun K => decide (PySem.W.nsIn K mainGlobals "tuple" = some none),
  fun K => decide (PySem.W.nsIn K mainGlobals "range" = some none),
  fun K => decide (PySem.W.nsIn K mainGlobals "enumerate" = some none),
  fun K => decide (PySem.W.nsIn K mainGlobals "isinstance" = some none),
  fun K => decide (PySem.W.nsIn K mainGlobals "zip" = some none),
  fun K => decide (PySem.W.nsIn K mainGlobals "all" = some none),
  fun K => decide (PySem.W.nsIn K mainGlobals "int" = some none),
  fun K => decide (PySem.W.nsIn K mainGlobals "bool" = some none),
  fun K => decide (PySem.W.nsIn K mainGlobals "str" = some none),
  fun K => decide (PySem.W.nsIn K mainGlobals "sorted" = some none),
  fun K => decide (PySem.W.nsIn K mainGlobals "set" = some none),
  fun K => decide (PySem.W.nsIn K mainGlobals "Web" = some (some (.ref (He.ga K "Web")))),
  fun K => PySem.W.plainGet K (He.ga K "Web") Str.empty,
  fun K => PySem.W.hasDictIn K (He.ga K "Web"),
  fun K => PySem.W.plainOver K (He.ga K "Web"),
  fun K => decide (PySem.W.findIn K (.ref (He.ga K "Web")) "__setattr__" = some (some (.builtin "object.__setattr__"))),
  fun K => PySem.W.makesIn K (He.ga K "Web"),
  fun K => PySem.W.keepIn K (.ref (He.ga K "Web")),
  fun K => decide (PySem.W.findIn K (.ref (He.ga K "Web")) "room_total" = some none),
  fun K => decide (PySem.W.findIn K (.ref (He.ga K "Web")) "pairs" = some none),
  fun K => decide (PySem.W.findIn K (.ref (He.ga K "Web")) "leaving" = some none),
  fun K => decide (PySem.W.findIn K (.ref (He.ga K "Web")) "entering" = some none),
  fun K => decide (PySem.W.nsIn K mainGlobals "_law_bag" = some (some (.ref (He.ga K "_law_bag")))),
  fun K => decide (PySem.W.nsIn K mainGlobals "_law_web" = some (some (.ref (He.ga K "_law_web")))),
  fun K => decide (PySem.W.nsIn K mainGlobals "_law_pull" = some (some (.ref (He.ga K "_law_pull")))),
  fun K => decide (PySem.W.nsIn K mainGlobals "_law_mixed" = some (some (.ref (He.ga K "_law_mixed")))),
  fun K => decide (PySem.W.nsIn K mainGlobals "_law_naming" = some (some (.ref (He.ga K "_law_naming")))),
  fun K => decide (PySem.W.nsIn K mainGlobals "_law_named" = some (some (.ref (He.ga K "_law_named")))),
  fun K => decide (PySem.W.nsIn K mainGlobals "_law_namings" = some (some (.ref (He.ga K "_law_namings")))),
  fun K => decide (PySem.W.nsIn K mainGlobals "_law_orders" = some (some (.ref (He.ga K "_law_orders")))),
  fun K => decide (PySem.W.nsIn K mainGlobals "_law_same" = some (some (.ref (He.ga K "_law_same")))),
  fun K => decide (PySem.W.nsIn K mainGlobals "naming" = some (some (.ref (He.ga K "naming")))),
  fun K => decide (PySem.W.nsIn K mainGlobals "neighbours" = some (some (.ref (He.ga K "neighbours")))),
  fun K => decide (PySem.W.findIn K (.ref (He.ga K "Web")) "rooms" = some (some (.ref (He.ma K (He.ga K "Web") "rooms")))),
  fun K => PySem.W.isFn K (.ref (He.ma K (He.ga K "Web") "rooms")),
  fun K => decide (PySem.W.findIn K (.ref (He.ga K "Web")) "ins" = some (some (.ref (He.ma K (He.ga K "Web") "ins")))),
  fun K => PySem.W.isFn K (.ref (He.ma K (He.ga K "Web") "ins")),
  fun K => decide (PySem.W.findIn K (.ref (He.ga K "Web")) "need_room" = some (some (.ref (He.ma K (He.ga K "Web") "need_room")))),
  fun K => PySem.W.isFn K (.ref (He.ma K (He.ga K "Web") "need_room")),
  fun K => decide (PySem.W.findIn K (.ref (He.ga K "Web")) "begin" = some (some (.ref (He.ma K (He.ga K "Web") "begin")))),
  fun K => PySem.W.isFn K (.ref (He.ma K (He.ga K "Web") "begin")),
  fun K => decide (PySem.W.findIn K (.ref (He.ga K "Web")) "need_arrow" = some (some (.ref (He.ma K (He.ga K "Web") "need_arrow")))),
  fun K => PySem.W.isFn K (.ref (He.ma K (He.ga K "Web") "need_arrow")),
  fun K => decide (PySem.W.findIn K (.ref (He.ga K "Web")) "has_arrow" = some (some (.ref (He.ma K (He.ga K "Web") "has_arrow")))),
  fun K => PySem.W.isFn K (.ref (He.ma K (He.ga K "Web") "has_arrow")),
  fun K => decide (PySem.W.findIn K (.ref (He.ga K "Web")) "outs" = some (some (.ref (He.ma K (He.ga K "Web") "outs")))),
  fun K => PySem.W.isFn K (.ref (He.ma K (He.ga K "Web") "outs")),
  fun K => decide (PySem.W.findIn K (.ref (He.ga K "Web")) "end" = some (some (.ref (He.ma K (He.ga K "Web") "end")))),
  fun K => PySem.W.isFn K (.ref (He.ma K (He.ga K "Web") "end")),
  fun K => decide (PySem.W.nsIn K mainGlobals "coloured" = some (some (.ref (He.ga K "coloured")))),
  fun K => decide (PySem.W.nsIn K mainGlobals "looks_of" = some (some (.ref (He.ga K "looks_of")))),
  fun K => decide (PySem.W.nsIn K mainGlobals "further" = some (some (.ref (He.ga K "further")))),
  fun K => decide (PySem.W.nsIn K mainGlobals "with_colour" = some (some (.ref (He.ga K "with_colour")))),
  fun K => decide (PySem.W.findIn K (.ref (He.ga K "Web")) "leading" = some (some (.ref (He.ma K (He.ga K "Web") "leading")))),
  fun K => PySem.W.isFn K (.ref (He.ma K (He.ga K "Web") "leading")),
  fun K => decide (PySem.W.nsIn K mainGlobals "_law_made" = some (some (.ref (He.ga K "_law_made")))),
  fun K => decide (PySem.W.findIn K (.ref (He.ga K "Web")) "__init__" = some (some (.ref (He.ma K (He.ga K "Web") "__init__")))),
  fun K => PySem.W.isFn K (.ref (He.ma K (He.ga K "Web") "__init__"))]
def fa1 : List Fct := [
  fun K => decide (PySem.W.nsIn K mainGlobals "pairs_of" = some (some (.ref (He.ga K "pairs_of")))),
  fun K => decide (PySem.W.nsIn K mainGlobals "is_pair" = some (some (.ref (He.ga K "is_pair")))),
  fun K => decide (PySem.W.nsIn K mainGlobals "gathered" = some (some (.ref (He.ga K "gathered")))),
  fun K => (He.Fa.int "MOST_ROOMS" (100)).ok K,
  fun K => (He.Fa.int "MOST_ARROWS" (400)).ok K,
  fun K => (He.Fa.int "MOST_TREE" (8000)).ok K,
  fun K => decide (PySem.W.nsIn K mainGlobals "law" = some (some (.ref (He.ga K "law"))))]
def faAll : List Fct := fa0 ++ fa1
def fnAll : List He.DefD := [d__law_bag, d__law_web, d__law_pull, d__law_mixed, d__law_naming, d__law_named, d__law_namings, d__law_orders, d__law_same, d_naming, d_neighbours, d_Web_rooms, d_Web_ins, d_Web_need_room, d_Web_begin, d_Web_need_arrow, d_Web_has_arrow, d_Web_outs, d_Web_end, d_coloured, d_looks_of, d_further, d_with_colour, d_Web_leading, d__law_made, d_Web___init__, d_pairs_of, d_is_pair, d_gathered, dLW]
def lo0 : List Str := ["_wall", "__name__", "FoldError", "BadWeb", "BadRoom", "BadArrow", "BadWindow", "TooMany", "MOST_ROOMS", "MOST_ARROWS", "MOST_ROWS", "MOST_WINDOW", "MOST_LENGTH", "is_pair", "pairs_of", "gathered", "Web", "MOST_TREE", "neighbours", "looks_of", "coloured", "with_colour", "naming", "further", "_law_bag", "_law_pull", "_law_same", "_law_mixed", "_law_web", "_law_made"]
def lo1 : List Str := ["_law_named", "_law_naming", "_law_orders", "_law_namings"]
def loAll : List Str := lo0 ++ lo1
abbrev RR : PySem.W.OpenRow := PySem.W.OpenLaw.row PySem.Challenge.rw_aheadfold_k40_namings_of_rooms_of_two_we
abbrev hkM : PySem.W.Hook := hookM 4 faAll fnAll
def obM (st : PySem.W.SharedT) : He.AlD := obsMG 4 faAll fnAll (HandSHeadRun.getT st)
theorem obM_eq (st : PySem.W.SharedT) : obM st = hkM.obs st.abs := obsMG_eq (HandSHeadRun.getT_eq st)
open HandSHeadRun PySem.W PySem.Calls in
set_option maxHeartbeats 0 in
theorem runA (w : World) : ∀ os : OsState, (HandSHeadRun.endF (stepQ (denQ tabQ) RR.prog w) 20000 RR.prog w os).map (fun s => (looksF RR.prog (boot_heap w.params) s.abs, seenQ (PySem.W.view RR.prog [37]) loAll (importedModules RR.prog.main.body) (fun s => PySem.W.xlAt (PySem.W.view RR.prog [37]) [] s && PySem.W.recOk RR.toRowW.records s) s.abs)) = some (true, PySem.W.openGood (PySem.W.view RR.prog [37]) loAll) := by
  intro os
  kernel_rfl
open HandSHeadRun PySem.W PySem.Calls in
set_option maxHeartbeats 0 in
theorem runF (w : World) : ∀ os : OsState, (HandSHeadRun.endF (stepQ (denQ tabQ) RR.prog w) 20000 RR.prog w os).map (fun s => allMG 4 faAll (getT s)) = some (true) := by
  intro os
  kernel_rfl
open HandSHeadRun PySem.W PySem.Calls in
set_option maxHeartbeats 0 in
theorem runD (w : World) : ∀ os : OsState, (HandSHeadRun.endF (stepQ (denQ tabQ) RR.prog w) 20000 RR.prog w os).map (fun s => obsMG 4 [] fnAll (getT s)) = some (He.valD fnAll) := by
  intro os
  kernel_rfl
theorem runM (w : World) : HandSHeadRun.RunEq RR (PySem.W.view RR.prog [37]) hkM obM 20000 loAll w := by
  intro os
  exact run_pair (runA w os) (run_facts (runF w os) (runD w os))
end KW
open PySem PySem.W PySem.Calls PyProof.Rows in
set_option maxRecDepth 100000 in
set_option maxHeartbeats 0 in
theorem KWlawSaid (h : PySem.Challenge.rw_aheadfold_k40_namings_of_rooms_of_two_we.row.wellSaid = true → PySem.Challenge.rw_aheadfold_k40_namings_of_rooms_of_two_we.row.Holds) : PySem.Challenge.rw_aheadfold_k40_namings_of_rooms_of_two_we.Holds := by
  w_on; o_law
  exact h (by assumption)
set_option Elab.async false
set_option maxRecDepth 100000
namespace KW
open PySem PySem.Spec PyProof.Rows L2
section
variable {X : Cx}
/-- o[j] of a list, by values, for o[j] op= e -/
def rGetL (K : PySem.W.Frag) : V → V → Hp → VK → Prop := fun o i H Q =>
  ∃ (p : Addr) (xs : List V) (j : Nat) (v : V), o = .ref p ∧ i = .int j ∧ SqL K H p xs ∧ xs[j]? = some v ∧ Q v H
theorem get_list : PGet X (rGetL X.K) := by
  intro pins s σ H o i ov iv Q I ro ri h
  obtain ⟨p, xs, j, v, rfl, rfl, hq, he, q⟩ := h
  cases ro
  obtain ⟨t, rfl⟩ := ri
  obtain ⟨its, r, pl, hz⟩ := I.list hq
  obtain ⟨u, eu, ru⟩ := r.get he
  have hj : j < xs.length := (List.getElem?_eq_some_iff.mp he).1
  have h63 := line63
  exact wpAny_getItem_list pl.isList (by omega) (by omega) (by simpa using eu) ⟨v, H, I, ru, q⟩
def rTupleOf (K : PySem.W.Frag) : List V → Hp → VK → Prop := fun xs H Q => ∃ p ys, xs = [.ref p] ∧ ((SqL K H p ys ∧ ∀ l, H l = none → Q (.ref l) (upd H l (.tup ys))) ∨ (SqT K H p ys ∧ Q (.ref p) H))
theorem call_tupleK {K : PySem.W.Frag} (h : X.K = K) : CallR X (.type "tuple") (rTupleOf K) := by
  subst h
  exact call_tuple_of
theorem ix_listK {K : PySem.W.Frag} (h : X.K = K) : IxR X (rIxL K) := by
  subst h
  exact ix_list
theorem ix_tupK {K : PySem.W.Frag} (h : X.K = K) : IxR X (rIxT K) := by
  subst h
  exact ix_tup
/-- a tuple whose object is known to have no dict -/
def FzT (H : Hp) (q : Addr) (as : List V) : Prop := ∃ o : Obj, H q = some (.frz o (.tup as)) ∧ o.dict = none
theorem FzT.sq {K : PySem.W.Frag} {H : Hp} {q : Addr} {as : List V} (h : FzT H q as) : SqT K H q as := by
  obtain ⟨o, h, _⟩ := h
  exact .inl (.inr ⟨o, h⟩)
def rTupleF (K : PySem.W.Frag) : List V → Hp → VK → Prop := fun xs H Q => ∃ p ys, xs = [.ref p] ∧ SqL K H p ys ∧ ∀ (l : Addr) (o : Obj), H l = none → o.dict = none → Q (.ref l) (upd H l (.frz o (.tup ys)))
theorem call_tupleF : CallR X (.type "tuple") (rTupleF X.K) := by
  intro pins st σ H xs us Q I rel hyp
  obtain ⟨p, ys, rfl, hsq, hq⟩ := hyp
  cases rel with
  | cons r0 r1 =>
    cases r1
    cases r0
    obtain ⟨its, vals, plain, short⟩ := I.list hsq
    have ln := vals.length
    refine call_tuple_list plain.isList (fun h' keep => ?_) (by simp only [List.size_toArray]; omega)
    have J : Inv X pins σ H { st with heap := h' } := I.kept (t' := st.toks) keep
    have J2 : Inv X pins σ (upd H h'.objs.size (.frz { cls := .type "tuple", data := .seq its.toArray } (.tup ys))) { st with heap := h'.push { cls := .type "tuple", data := .seq its.toArray } } :=
      J.laid (t' := st.toks) (fun c u hc => Heap.get?_push_of_some _ hc) (Nat.le_refl _) ⟨Heap.get?_push_size _ rfl, short, its, vals, IsTup.new _ _⟩
    exact ⟨.ref h'.objs.size, _, J2, rfl, hq _ _ (J.hok.fresh (Nat.le_refl _)) rfl⟩
theorem boot_tuple' : bootBuiltins "tuple" = some (.type "tuple") := by decide +kernel
theorem boot_list' : bootBuiltins "list" = some (.type "list") := by decide +kernel
end
/-- the drawing bag at b: its list at l holds ns -/
def BagAt (b l : Addr) (ns : List Int) (H : Hp) : Prop :=
  (∃ i r s c : Int, H b = some (.lst [.ref l, .int i, .int r, .int s, .int c]) ∧ 0 ≤ i) ∧ H l = some (.lst (ns.map V.int)) ∧ b ≠ l
/-- all but b is as it was -/
def Off (b : Addr) (H H' : Hp) : Prop := ∀ a, a ≠ b → H' a = H a
theorem Off.refl (b : Addr) (H : Hp) : Off b H H := fun _ _ => rfl
theorem Off.trans {b : Addr} {H H1 H2 : Hp} (x : Off b H H1) (y : Off b H1 H2) : Off b H H2 := fun a h => (y a h).trans (x a h)
theorem Off.upd {b : Addr} {H : Hp} {o : HO} : Off b H (upd H b o) := fun _ h => upd_ne h
theorem BagAt.put {b l : Addr} {ns : List Int} {H : Hp} (B : BagAt b l ns H) {i r s c : Int} (h : 0 ≤ i) : BagAt b l ns (upd H b (.lst [.ref l, .int i, .int r, .int s, .int c])) :=
  ⟨⟨i, r, s, c, upd_same, h⟩, by rw [upd_ne B.2.2.symm]; exact B.2.1, B.2.2⟩
end KW
set_option Elab.async false
set_option maxRecDepth 100000
namespace KW
open PySem PySem.Spec PyProof.Rows L2
section
variable {X : Cx}
def rInTD (K : PySem.W.Frag) : R2 := fun x y H Q => ∃ d ds, Dp K H x d ∧ Dp K H y (.tuple ds) ∧ SeqAt.shaped d = true ∧ SeqAt.shaped (.tuple ds) = true ∧ Q (.bl (ds.any fun z => PyData.eqv z d)) H
theorem op_inTD (hu : X.A.units + 65 < cLine) : OpR X (compareOp .In) (rInTD X.K) := by
  intro pins s σ H x y v u Q I rx ry h
  obtain ⟨d, ds, hd, he, sd, se, q⟩ := h
  obtain ⟨as, r1⟩ := Dp.reads I d x v hd rx
  obtain ⟨bs, r2⟩ := Dp.reads I (.tuple ds) y u he ry
  exact SeqAt.in_tuple_reads r2 r1 (SeqAt.canLay_of_shaped se) (SeqAt.canLay_of_shaped sd) (room_in_shaped sd hu) ⟨.bl _, H, I, rfl, q⟩
end
theorem hu65 {A : Around} {k : Nat} (hr : Room k A) : A.units + 65 < cLine := by
  have := hr.un
  omega
def nV (i : Nat) : V := .int (i : Int)
def nums (l : List Nat) : List V := l.map nV
theorem nums_snoc (l : List Nat) (i : Nat) : nums (l ++ [i]) = nums l ++ [.int (i : Int)] := by
  unfold nums
  rw [List.map_append]
  rfl
def nD (i : Nat) : PyData := .int (i : Int)
def rowD (l : List Nat) : PyData := .tuple (l.map nD)
theorem nums_lay : ∀ l : List Nat, PyData.canLayAll0 (l.map nD) = true
  | [] => by simp [PyData.canLayAll0]
  | i :: l => by simp [PyData.canLayAll0, nD, PyData.canLay0, nums_lay l]
theorem nums_depth : ∀ l : List Nat, PyData.depthAll (l.map nD) = 0
  | [] => by simp [PyData.depthAll]
  | i :: l => by simp [PyData.depthAll, nD, PyData.depth, nums_depth l]
theorem rows_lay : ∀ ls : List (List Nat), PyData.canLayAll0 (ls.map rowD) = true
  | [] => by simp [PyData.canLayAll0]
  | l :: ls => by simp [PyData.canLayAll0, rowD, PyData.canLay0, nums_lay l, rows_lay ls]
theorem rows_depth : ∀ ls : List (List Nat), PyData.depthAll (ls.map rowD) ≤ 1
  | [] => by simp [PyData.depthAll]
  | l :: ls => by
    have h1 := rows_depth ls
    simp only [List.map_cons, PyData.depthAll, rowD, PyData.depth, nums_depth]
    omega
theorem shaped_of {d : PyData} (h1 : d.canLay0 = true) (h2 : d.depth ≤ 64) : SeqAt.shaped d = true := by
  unfold SeqAt.shaped
  rw [h1, decide_eq_true h2]
  rfl
theorem rows_shaped (ls : List (List Nat)) : SeqAt.shaped (.tuple (ls.map rowD)) = true := by
  have h1 := rows_depth ls
  exact shaped_of (by simp only [PyData.canLay0]; exact rows_lay ls) (by simp only [PyData.depth]; omega)
theorem nil_shaped : SeqAt.shaped (.tuple []) = true := by decide
theorem nil_in (ls : List (List Nat)) : ((ls.map rowD).any fun z => PyData.eqv z (.tuple [])) = ls.any (·.isEmpty) := by
  rw [List.any_map]
  congr 1
  funext l
  cases l <;> simp [rowD, PyData.eqv, PyData.eqvAll]
theorem dp_nums {K : PySem.W.Frag} {H : Hp} : ∀ l : List Nat, DpAll K H (nums l) (l.map nD)
  | [] => .nil
  | i :: l => .cons (.int _) (dp_nums l)
def IsR (H : Hp) (v : V) (l : List Nat) : Prop := ∃ a, v = .ref a ∧ H a = some (.tup (nums l))
abbrev RowsIn (H : Hp) (vs : List V) (ls : List (List Nat)) : Prop := Paired (IsR H) vs ls
theorem dp_rows {K : PySem.W.Frag} {H : Hp} : ∀ {vs : List V} {ls : List (List Nat)}, RowsIn H vs ls → DpAll K H vs (ls.map rowD)
  | _, _, .nil => .nil
  | _, _, .cons ⟨a, e, h⟩ r => by
    rw [e]
    exact .cons (.tup (SqT.of h) (dp_nums _)) (dp_rows r)
def idxs : List Nat → Nat → Nat → List Nat
  | [], _, _ => []
  | p :: ps, r, k => if p = r then k :: idxs ps r (k + 1) else idxs ps r (k + 1)
theorem idxs_snoc (p r : Nat) : ∀ (ps : List Nat) (k : Nat), idxs (ps ++ [p]) r k = idxs ps r k ++ (if p = r then [k + ps.length] else [])
  | [], k => by
    show idxs [p] r k = _
    unfold idxs
    split <;> simp [idxs]
  | q :: ps, k => by
    have ih := idxs_snoc p r ps (k + 1)
    show idxs (q :: (ps ++ [p])) r k = _
    unfold idxs
    rw [ih]
    have e : k + 1 + ps.length = k + (q :: ps).length := by simp; omega
    rw [e]
    split <;> simp
theorem idxs_len (r : Nat) : ∀ (ps : List Nat) (k : Nat), (idxs ps r k).length ≤ ps.length
  | [], k => by simp [idxs]
  | q :: ps, k => by
    have ih := idxs_len r ps (k + 1)
    unfold idxs
    split <;> simp <;> omega
theorem idxs_none (r : Nat) : ∀ (ps : List Nat) (k : Nat), idxs ps r k = [] → r ∉ ps
  | [], k, _ => by simp
  | q :: ps, k, h => by
    unfold idxs at h
    split at h
    · cases h
    · rename_i hq
      have ih := idxs_none r ps (k + 1) h
      intro z
      rcases List.mem_cons.mp z with e | e
      · exact hq e.symm
      · exact ih e
/-- for each number below n its places -/
def gat (n : Nat) (ps : List Nat) : List (List Nat) := (List.range n).map fun r => idxs ps r 0
theorem gat_len (n : Nat) (ps : List Nat) : (gat n ps).length = n := by simp [gat]
theorem gat_full {n : Nat} {ps : List Nat} (h : ∀ r, r < n → r ∈ ps) : (gat n ps).any (·.isEmpty) = false := by
  rw [List.any_eq_false]
  intro l hl z
  obtain ⟨r, hr, e⟩ := List.mem_map.mp hl
  subst e
  exact idxs_none r ps 0 (List.isEmpty_iff.mp z) (h r (List.mem_range.mp hr))
end KW
set_option Elab.async false
set_option maxRecDepth 100000
set_option maxHeartbeats 1000000
namespace KW
open PySem PySem.Spec PyProof.Rows L2
theorem meets_enum1 {v : Value} {ob : Obj} {G : Heap → Prop} (B : Begins v ob G) :
    Meets (Builtin.«enumerate.__new__» ⟨[.type "enumerate", v], []⟩) (fun _ R st => G st.heap ∧
      R (.ok (.ret (.ref (st.heap.push ob).objs.size))) { st with heap := (st.heap.push ob).push { cls := .type "enumerate", data := .fields #[.none, .bool false, .ref st.heap.objs.size, rawInt 0, .none, .none] } }) :=
  .of_wp fun prog w A R st hyp => by
    obtain ⟨hp, gs, dr, tk, os⟩ := st
    obtain ⟨hG, hR⟩ := hyp
    have sub1 := sub_enumerate
    have begin1 : ∀ {A1 : Around} {E1 : Value → Shared → Prop} {Q1 : Value → Shared → Prop}, Q1 (.ref hp.objs.size) ⟨hp.push ob, gs, dr, tk, os⟩ → wpAny (model prog w) A1 (pyIter v) Q1 E1 ⟨hp, gs, dr, tk, os⟩ :=
      fun hq => B.iter prog w _ _ ⟨hp, gs, dr, tk, os⟩ _ hG hq
    wp_walk using begin1
    refine wpAny_stack_any fun stk => wpAny_pure ?_
    split
    · rename_i cl _ _ _ _ _
      cases (cl == Value.type "enumerate") <;> (wp_walk using begin1; exact ⟨_, rfl, hR⟩)
    · wp_walk using begin1
      exact ⟨_, rfl, hR⟩
theorem call_enum1 {prog : Program} {w : World} {A : Around} {E : Value → Shared → Prop} {st : Shared} {v : Value} {ob : Obj} {G : Heap → Prop} {Q : Value → Shared → Prop} (B : Begins v ob G) (hG : G st.heap)
    (hQ : ∀ h', IsEnum h' (st.heap.objs.size + 1) st.heap.objs.size 0 .none → h'.get? st.heap.objs.size = some ob → (∀ c u, st.heap.get? c = some u → h'.get? c = some u) → Q (.ref (st.heap.objs.size + 1)) { st with heap := h' }) :
    wpAny (model prog w) A (call (.type "enumerate") [v]) Q E st := by
  refine callType_new F.called_enumerate (by decide) (F.typeCall_enumerate_1 _) (F.newCall_enumerate_1 _) (fun self => F.args_object_init_2 self _) F.entry_enumerate_new (meets_enum1 B) ⟨hG, ?_⟩
  have size1 : (st.heap.push ob).objs.size = st.heap.objs.size + 1 := Heap.size_push ..
  have isE : IsEnum ((st.heap.push ob).push { cls := .type "enumerate", data := .fields #[.none, .bool false, .ref st.heap.objs.size, rawInt 0, .none, .none] }) (st.heap.objs.size + 1) st.heap.objs.size 0 .none := by
    have last := Heap.get?_push_size (st.heap.push ob) (o := { cls := .type "enumerate", data := .fields #[.none, .bool false, .ref st.heap.objs.size, rawInt 0, .none, .none] }) rfl
    rw [size1] at last
    exact last
  show _ ∧ _
  rw [size1]
  exact ⟨⟨_, isE, rfl⟩, hQ _ isE (Heap.get?_push_of_some _ (Heap.get?_push_size _ B.free)) fun c u hc => Heap.get?_push_of_some _ (Heap.get?_push_of_some _ hc)⟩
/-- the tuple at a, each item with its number in a new pair -/
def ItEnT (K : PySem.W.Frag) (a : Addr) : It where
  go := fun i H => ∃ (xs : List V) (x : V), SqT K H a xs ∧ xs[i]? = some x
  yld := fun i H v H' => ∃ T x, v = .ref T ∧ H T = none ∧ H' = upd H T (.tup [.int (i : Nat), x]) ∧ ∀ xs, SqT K H a xs → xs[i]? = some x
  stop := fun i H => ∃ xs : List V, SqT K H a xs ∧ xs.length ≤ i
theorem turn_enT {P : Program} {w : World} {K : PySem.W.Frag} {els : List Expr} {kk : Nat} {tp : Pos} (a en it : Addr) :
    Turn P w K (.Tuple els kk tp) (ItEnT K a) [en, it] en (fun i h => (∃ old, IsEnum h en it ((i : Nat) : Int) old) ∧ h.IsTupleIter it a i ∧ en ≠ it ∧ en ≠ a ∧ a ≠ it) where
  mem := by simp
  obj := fun i h state c hc => by
    obtain ⟨⟨old, hen⟩, ⟨ob, hob, _, hdat⟩, _⟩ := state
    rcases (by simpa using hc : c = en ∨ c = it) with hz | hz
    · subst hz
      exact ⟨_, hen, fun v bad => nomatch bad⟩
    · subst hz
      exact ⟨ob, hob, fun v bad => by rw [hdat] at bad; cases bad⟩
  keep := fun i h h' state stay => by
    obtain ⟨⟨old, hen⟩, hti, n1, n2, n3⟩ := state
    exact ⟨⟨old, stay en (by simp) _ hen⟩, hti.at fun ob hob => stay it (by simp) ob hob, n1, n2, n3⟩
  item := by
    intro X eP ew eK calm i pins st σ H E I fresh state going
    subst eP ew eK
    obtain ⟨⟨old, hen⟩, hti, n1, n2, n3⟩ := state
    obtain ⟨xs, x, hsq, hx⟩ := going
    obtain ⟨its, vals, isT, _⟩ := I.tuple hsq
    obtain ⟨u, hu, ru⟩ := vals.get hx
    have hlt : i < its.toArray.size := by
      have := (List.getElem?_eq_some_iff.mp hu).1
      simpa using this
    have enOld : en < st.heap.objs.size := Heap.lt_size hen
    have itOld : it < st.heap.objs.size := by
      obtain ⟨_, hq, _⟩ := hti
      exact Heap.lt_size hq
    have D := Draws.tuple (prog := X.prog) (w := X.w) (A := X.A.in1) (I.ok.hd calm) it a n3 its.toArray
    refine wpAny_pyNext_enum_itemD D hen ⟨hti, isT⟩ hlt n1 (by simp [n1, n2]) fun y h' tk hy hout hti' hnew hsz hkeep => ?_
    have ey : y = u := by
      have q : its.toArray[i]? = some u := by simpa using hu
      rw [q] at hy
      exact (Option.some.inj hy).symm
    subst ey
    refine ⟨_, rfl, wpAny_letOwnedTupleGo_enum (s := { st with heap := h', toks := tk + 1 }) hout fun h2 hen2 same2 => ?_⟩
    have new2 : h2.get? st.heap.objs.size = some { cls := .type "tuple", data := .seq #[.int i tk, y] } := (same2.2 _ (Nat.ne_of_gt enOld)).trans hnew
    have okT : ObjOk X.prog X.w (upd H st.heap.objs.size (.tup [.int (i : Nat), x])) h2 st.heap.objs.size (.tup [.int (i : Nat), x]) :=
      ⟨by show 2 ≤ sizeLine; decide, [.int i tk, y], .cons ⟨_, rfl⟩ (.cons ru .nil), ⟨_, new2, rfl, _, rfl⟩⟩
    have I2 : Inv X pins σ (upd H st.heap.objs.size (.tup [.int (i : Nat), x])) { st with heap := h2, toks := tk + 1 } :=
      I.turnedNew (ch := [en, it]) (fun c ob hc hob => (same2.2 c (fun z => hc (by simp [z]))).trans (hkeep c ob (fun z => hc (by simp [z])) (fun z => hc (by simp [z])) hob)) fresh (Nat.le_refl _) okT
    have casts : ((i + 1 : Nat) : Int) = (i : Int) + 1 := by omega
    refine ⟨.ref st.heap.objs.size, _, I2, rfl, ⟨_, x, rfl, I.hok.fresh (Nat.le_refl _), rfl, fun ys hys => by rw [I.tuple_inj hys hsq]; exact hx⟩,
      ⟨⟨y, by rw [casts]; exact hen2⟩, hti'.1.at fun ob hob => (same2.2 it n1.symm).trans hob, n1, n2, n3⟩, fun c hc => ?_⟩
    have cOld : c < st.heap.objs.size := by
      rcases (by simpa using hc : c = en ∨ c = it) with hz | hz
      · rw [hz]; exact enOld
      · rw [hz]; exact itOld
    rw [upd_ne (Nat.ne_of_lt cOld)]
    exact (fresh c hc).1
  done := by
    intro X eP ew eK calm i pins st σ H E I fresh state stopping
    subst eP ew eK
    obtain ⟨⟨old, hen⟩, hti, n1, n2, n3⟩ := state
    obtain ⟨xs, hsq, hlen⟩ := stopping
    obtain ⟨its, vals, isT, _⟩ := I.tuple hsq
    obtain ⟨f0, f1, f2, f3, f4, f5⟩ := fresh it (by simp)
    have ln := vals.length
    have hT : st.TypeIs (.ref en) "enumerate" := ⟨_, hen, rfl⟩
    unfold pyNext
    refine wpAny_bind (wpAny_attempt (wpAny_callSpecial?_slot (name := Str.ofString "__next__") hT F.slot_enumerate_next (wpAny_call_entry F.slot_enumerate_next hT F.entry_enumerate_next ?_ (F.args_enumerate_next_1 _))))
    show wpAny _ _ (field (.ref en) 2 >>= _) _ _ _
    refine wpAny_bind (wpAny_field hen rfl (x := .ref it) rfl ?_)
    refine wpAny_bind (wpAny_nextOf_tuple_end (I.ok.hd calm) hti (show st.heap.IsTuple a its.toArray from isT) (by simp; omega) fun h' ex ext hex => ?_)
    obtain ⟨ob, hob, hcl⟩ := hex
    refine wpAny_bind (wpAny_isInstance (T := "StopIteration") (b := true) ⟨ob, hob, hcl⟩ isSubtype_stop ?_)
    exact wpAny_pure ⟨rfl, I.turned (t' := st.toks) (fun c u hc hcu => ext c u hc hcu) f0 f1 f3 f4 f5⟩
  self := fun A i st Q E state hq => by
    obtain ⟨⟨old, hen⟩, _⟩ := state
    exact wpAny_pyIter_enum hen hq
def iEnT (K : PySem.W.Frag) (ta : TA) : TI := fun σ H R => ta σ H fun vs H1 => ∃ a xs, vs = [.ref a] ∧ SqT K H1 a xs ∧ R (ItEnT K a) H1
theorem pi_enT {X : Cx} {e : Expr} {ta : TA} {p pos tp : Pos} {els : List Expr} {kk : Nat} (hg : Gl X "enumerate") (hm : X.mg "enumerate" = none) (ha : PA X [e] ta) (hs : starEach [e] X.env = [(false, eval e X.env)] := by rfl) :
    PI X (.Tuple els kk tp) (.Call (.Name "enumerate" p) [e] [] pos) (iEnT X.K ta) := by
  refine ⟨fun pins st σ H R I hyp => ?_⟩
  refine Call_ (ld_blt I hg hm PyProof.Rows.boot_enumerate (PyProof.Rows.callWith_type1 (thn (ha.run pos pins st σ H _ I hyp) fun us s1 ⟨vs, H1, I1, rel, rest⟩ => ?_) hs rfl))
  obtain ⟨a, xs, ev, hsq, hR⟩ := rest
  subst ev
  cases rel with
  | cons r0 r1 =>
    cases r1
    cases r0
    obtain ⟨its, vals, isT, _⟩ := I1.tuple hsq
    have aOld : a < s1.heap.objs.size := IsTup.lt isT
    refine call_enum1 (begins_tuple a its.toArray) (show s1.heap.IsTuple a its.toArray from isT) fun h' hen hit hkeep => wpAny_pyIter_enum hen ?_
    have I2 : Inv X pins σ H1 { s1 with heap := h' } := I1.kept (t' := s1.toks) hkeep
    refine ⟨s1.heap.objs.size + 1, [s1.heap.objs.size + 1, s1.heap.objs.size], _, _, H1, rfl, I2, turn_enT a (s1.heap.objs.size + 1) s1.heap.objs.size,
      ⟨⟨.none, hen⟩, ⟨_, hit, rfl, rfl⟩, Nat.succ_ne_self _, Nat.ne_of_gt (Nat.lt_succ_of_lt aOld), Nat.ne_of_lt aOld⟩, fun c hc => ?_, hR⟩
    have newer : s1.heap.objs.size ≤ c := by
      rcases (by simpa using hc : c = s1.heap.objs.size + 1 ∨ c = s1.heap.objs.size) with hz | hz
      · rw [hz]; exact Nat.le_succ _
      · rw [hz]; exact Nat.le_refl _
    exact I1.fpOk newer (I1.hok.fresh newer)
theorem walk_enT {K : PySem.W.Frag} {a : Addr} {xs : List V} : Walk (ItEnT K a) xs.length (fun H => SqT K H a xs) (YPair (fun i => some (.int (i : Nat))) (fun i => xs[i]?)) := by
  refine ⟨fun i _ hi hsq => ⟨xs, xs[i], hsq, by simp [hi]⟩, fun _ hsq => ⟨xs, hsq, Nat.le_refl _⟩, fun i H v H' _ hsq told => ?_⟩
  obtain ⟨T, x, e1, e2, e3, e4⟩ := told
  exact ⟨T, .int (i : Nat), x, e1, e2, e3, rfl, e4 xs hsq⟩
section
variable {X : Cx}
def rTCount (K : PySem.W.Frag) : V → List V → Hp → VK → Prop := fun x vs H Q => ∃ (a : Addr) (y : V) (d : PyData) (ds : List PyData), x = .ref a ∧ vs = [y] ∧ Dp K H (.ref a) (.tuple ds) ∧ Dp K H y d ∧ PyData.plainAll ds = true ∧ d.plain = true ∧ d.depth ≤ 64 ∧
  Q (.int ((ds.countP fun z => PyData.eqv z d : Nat) : Int)) H
theorem mt_tcount (hu : X.A.units + 65 < cLine) : MtR X "tuple.count" (rTCount X.K) := by
  intro pins st σ H x vs v us Q I rx rs hyp
  obtain ⟨a, y, d, ds, rfl, rfl, ha, hy, pl, pd, dep, q⟩ := hyp
  cases rx
  cases rs with
  | cons ry rt =>
    rename_i uy ut
    cases rt
    obtain ⟨bs, r1⟩ := Dp.reads I d y uy hy ry
    cases ha with
    | tup hsq hall =>
      obtain ⟨its, vals, isT, _⟩ := I.tuple hsq
      obtain ⟨as, r2⟩ := Dp.readsAll I ds _ its hall vals
      have few : min (PyData.depthAll ds) d.depth ≤ 64 := Nat.le_trans (Nat.min_le_right _ _) dep
      exact SeqAt.count_tuple_data (show st.heap.IsTuple a its.toArray from isT) (show ReadsAll st.heap its.toArray.toList ds as from r2) r1 pl pd (by omega) ⟨.int _, H, I.tok _, ⟨_, rfl⟩, q⟩
/-- o.count(e), o a tuple without a dict -/
def tTC (K : PySem.W.Frag) (to : TE) (t : TA) : TE := fun σ H Q => to σ H fun x H1 => ∃ q as, x = .ref q ∧ FzT H1 q as ∧ t σ H1 fun xs H2 => rTCount K x xs H2 Q
theorem pe_tcount {o e : Expr} {es : List Expr} {to : TE} {t : TA} {ap cp : Pos} (hu : X.A.units + 65 < cLine) (ho : PE X o to) (ha : PA X (e :: es) t)
    (hbase : attributeBase o "count" X.env (eval o X.env) = eval o X.env := by rfl)
    (few : ((backTo cp (starEach (e :: es) X.env)).all (fun x => !x.1) && (backToKw cp (keywordEach [] X.env)).all (fun x => x.1.isSome) && decide ((e :: es).length + ([] : List Keyword).length + (if ([] : List Keyword).isEmpty then 0 else 1) < 30)) = true := by rfl)
    (line : (ap.endLine == cp.line) = true := by rfl) (hs : starEach (e :: es) X.env = (false, eval e X.env) :: starEach es X.env := by rfl) (hpl : (backTo cp (starEach es X.env)).any (·.1) = false := by rfl) :
    PE X (.Call (.Attribute o "count" ap) (e :: es) [] cp) (tTC X.K to t) := by
  refine ⟨fun pins st σ H Q I hyp => ?_⟩
  refine wpAny_Call_method_late hbase few line rfl (thn (ho.run pins st σ H _ I hyp) fun v s1 ⟨x, H1, I1, rx, q, as, ex, hfz, rest⟩ => ?_)
  subst ex
  cases rx
  obtain ⟨ob, hfz, hdict⟩ := hfz
  obtain ⟨hob, _, its, _, ob2, hob2, hcl, _⟩ := (show ObjOk X.prog X.w H1 s1.heap q (.frz ob (.tup as)) from I1.hok q _ hfz)
  have same : ob2 = ob := Option.some.inj (hob2.symm.trans hob)
  subst same
  refine ⟨"tuple", "tuple.count", PySem.F.plainAttrs_tuple, PySem.F.slot_tuple_count, PySem.F.type_tuple_count, ⟨ob2, hob2, hcl⟩, fun a ea => by cases ea; exact ⟨ob2, hob2, hdict⟩, ?_⟩
  have args := ha.run cp pins s1 σ H1 _ I1 rest
  rw [hs] at args ⊢
  refine Calls.callWith_builtin (by show (false || (backTo cp (starEach es X.env)).any (·.1)) = false; rw [hpl]; rfl) (Calls.evalArgs_plain ?_)
  exact thn args fun us s2 ⟨vs, H2, I2, rv, hq⟩ => mt_tcount hu pins s2 σ H2 (.ref q) vs _ us Q I2 rfl rv hq
end
end KW
set_option Elab.async false
set_option maxRecDepth 100000
set_option maxHeartbeats 1000000
namespace KW
open PySem PySem.Spec PyProof.Rows L2
end KW
set_option Elab.async false
set_option maxRecDepth 100000
namespace KW
open PySem PySem.Spec PyProof.Rows L2
section
variable {X : Cx} {K : PySem.W.Frag} {tg l e : Expr} {tl ta : TE} {f : Str} {pos : Pos}
theorem pi_listK (h : X.K = K) (hl : PE X l tl) : PI X tg l (iList K tl) := by
  subst h
  exact pi_list hl
theorem op_notInK (h : X.K = K) : OpR X (compareOp .NotIn) (rIn K true) := by
  subst h
  exact op_notIn_seq
end
end KW
set_option Elab.async false
set_option maxRecDepth 100000
set_option maxHeartbeats 2000000
namespace KW
open PySem PySem.Spec PyProof.Rows L2
end KW
set_option Elab.async false
set_option linter.all false
set_option maxRecDepth 100000
set_option maxHeartbeats 1000000
namespace KD
open PySem PySem.Spec PyProof.Rows L2
/-- a key that is a tuple in whose places tuples may stand -/
abbrev NK := PySem.NestedKey
inductive D where
  | int (i : Int) | bl (b : Bool) | str (x : Str) | non
  | tup (xs : List D) | ftup (xs : List D) | lst (xs : List D)
  | obj (c : Nat) (d : D)
  | dk (kvs : List (L2.Key × D)) | dt (kvs : List (List L2.Key × D)) | ftb (kvs : List (List L2.Key × D)) | fkb (kvs : List (L2.Key × D))
  | ndb (kvs : List (NK × D))
/-- what an object stands for -/
structure Obs where
  rep : Nat → D → Hp → Addr → Prop
  mono : ∀ {c d H H' a}, Same H H' → rep c d H a → rep c d H' a
  /-- what holds of a dict whose keys are such tuples: keys, where they stand, values -/
  nd : Addr → List (NK × Addr × V) → Heap → Prop := fun _ _ _ => True
def FzT (H : Hp) (q : Addr) (as : List V) : Prop := ∃ o : Obj, H q = some (.frz o (.tup as)) ∧ o.dict = none
theorem FzT.mono {H H' : Hp} {q : Addr} {as : List V} (s : Same H H') (h : FzT H q as) : FzT H' q as := by
  obtain ⟨o, h, d⟩ := h
  exact ⟨o, s _ _ h, d⟩
theorem FzT.sq {K : PySem.W.Frag} {H : Hp} {q : Addr} {as : List V} (h : FzT H q as) : SqT K H q as := by
  obtain ⟨o, h, _⟩ := h
  exact .inl (.inr ⟨o, h⟩)
mutual
/-- such a key stands there -/
inductive KeyIs (G : Hp) : V → NK → Prop
  | none : KeyIs G .non .none
  | num (i : Int) : KeyIs G (.int i) (.num i)
  | text (x : Str) : KeyIs G (.str x) (.text x)
  | tup {a : Addr} {vs : List V} {ks : List NK} : G a = some (.tup vs) ∨ FzT G a vs → KeysIs G vs ks → KeyIs G (.ref a) (.tup ks)
inductive KeysIs (G : Hp) : List V → List NK → Prop
  | nil : KeysIs G [] []
  | cons {v : V} {k : NK} {vs : List V} {ks : List NK} : KeyIs G v k → KeysIs G vs ks → KeysIs G (v :: vs) (k :: ks)
end
mutual
theorem KeyIs.mono {G G' : Hp} (s : Same G G') : ∀ {v : V} {k : NK}, KeyIs G v k → KeyIs G' v k
  | _, _, .none => .none
  | _, _, .num i => .num i
  | _, _, .text x => .text x
  | _, _, .tup h r => .tup (h.elim (fun h => .inl (s _ _ h)) fun h => .inr (h.mono s)) (KeysIs.mono s r)
theorem KeysIs.mono {G G' : Hp} (s : Same G G') : ∀ {vs : List V} {ks : List NK}, KeysIs G vs ks → KeysIs G' vs ks
  | _, _, .nil => .nil
  | _, _, .cons h r => .cons (KeyIs.mono s h) (KeysIs.mono s r)
end
mutual
inductive Rep (Ω : Obs) (G : Hp) : V → D → Prop
  | int (i : Int) : Rep Ω G (.int i) (.int i)
  | bl (b : Bool) : Rep Ω G (.bl b) (.bl b)
  | str (x : Str) : Rep Ω G (.str x) (.str x)
  | non : Rep Ω G .non .non
  | tup {a : Addr} {vs : List V} {xs : List D} : G a = some (.tup vs) → Reps Ω G vs xs → Rep Ω G (.ref a) (.tup xs)
  | ftup {a : Addr} {vs : List V} {xs : List D} : FzT G a vs → Reps Ω G vs xs → Rep Ω G (.ref a) (.ftup xs)
  | lst {a : Addr} {vs : List V} {xs : List D} : G a = some (.lst vs) → Reps Ω G vs xs → Rep Ω G (.ref a) (.lst xs)
  | obj {a : Addr} {c : Nat} {d : D} : Ω.rep c d G a → Rep Ω G (.ref a) (.obj c d)
  | dk {a : Addr} {vs : List (L2.Key × V)} {xs : List (L2.Key × D)} : G a = some (.dK vs) → RepK Ω G vs xs → Rep Ω G (.ref a) (.dk xs)
  | dt {a : Addr} {vs : List (List L2.Key × V)} {xs : List (List L2.Key × D)} : G a = some (.dT vs) → RepT Ω G vs xs → Rep Ω G (.ref a) (.dt xs)
  | ftb {a : Addr} {o : Obj} {vs : List (List L2.Key × V)} {xs : List (List L2.Key × D)} : G a = some (.frz o (.dT vs)) → RepT Ω G vs xs → Rep Ω G (.ref a) (.ftb xs)
  | fkb {a : Addr} {o : Obj} {vs : List (L2.Key × V)} {xs : List (L2.Key × D)} : G a = some (.frz o (.dK vs)) → RepK Ω G vs xs → Rep Ω G (.ref a) (.fkb xs)
  | ndb {a : Addr} {o : Obj} {vs : List (NK × Addr × V)} {xs : List (NK × D)} : G a = some (.frz o (.ext (Ω.nd a vs))) → RepN Ω G vs xs → Rep Ω G (.ref a) (.ndb xs)
inductive Reps (Ω : Obs) (G : Hp) : List V → List D → Prop
  | nil : Reps Ω G [] []
  | cons {v : V} {x : D} {vs : List V} {xs : List D} : Rep Ω G v x → Reps Ω G vs xs → Reps Ω G (v :: vs) (x :: xs)
inductive RepK (Ω : Obs) (G : Hp) : List (L2.Key × V) → List (L2.Key × D) → Prop
  | nil : RepK Ω G [] []
  | cons {k : L2.Key} {v : V} {x : D} {vs : List (L2.Key × V)} {xs : List (L2.Key × D)} : Rep Ω G v x → RepK Ω G vs xs → RepK Ω G ((k, v) :: vs) ((k, x) :: xs)
inductive RepT (Ω : Obs) (G : Hp) : List (List L2.Key × V) → List (List L2.Key × D) → Prop
  | nil : RepT Ω G [] []
  | cons {k : List L2.Key} {v : V} {x : D} {vs : List (List L2.Key × V)} {xs : List (List L2.Key × D)} : Rep Ω G v x → RepT Ω G vs xs → RepT Ω G ((k, v) :: vs) ((k, x) :: xs)
inductive RepN (Ω : Obs) (G : Hp) : List (NK × Addr × V) → List (NK × D) → Prop
  | nil : RepN Ω G [] []
  | cons {k : NK} {b : Addr} {v : V} {x : D} {vs : List (NK × Addr × V)} {xs : List (NK × D)} : KeyIs G (.ref b) k → Rep Ω G v x → RepN Ω G vs xs → RepN Ω G ((k, b, v) :: vs) ((k, x) :: xs)
end
section
variable {Ω : Obs} {G G' H H' : Hp}
mutual
theorem Rep.mono (s : Same G G') : ∀ {v : V} {x : D}, Rep Ω G v x → Rep Ω G' v x
  | _, _, .int i => .int i
  | _, _, .bl b => .bl b
  | _, _, .str z => .str z
  | _, _, .non => .non
  | _, _, .tup h r => .tup (s _ _ h) (Reps.mono s r)
  | _, _, .ftup h r => .ftup (h.mono s) (Reps.mono s r)
  | _, _, .lst h r => .lst (s _ _ h) (Reps.mono s r)
  | _, _, .obj h => .obj (Ω.mono s h)
  | _, _, .dk h r => .dk (s _ _ h) (RepK.mono s r)
  | _, _, .dt h r => .dt (s _ _ h) (RepT.mono s r)
  | _, _, .ftb h r => .ftb (s _ _ h) (RepT.mono s r)
  | _, _, .fkb h r => .fkb (s _ _ h) (RepK.mono s r)
  | _, _, .ndb h r => .ndb (s _ _ h) (RepN.mono s r)
theorem Reps.mono (s : Same G G') : ∀ {vs : List V} {xs : List D}, Reps Ω G vs xs → Reps Ω G' vs xs
  | _, _, .nil => .nil
  | _, _, .cons h r => .cons (Rep.mono s h) (Reps.mono s r)
theorem RepK.mono (s : Same G G') : ∀ {vs : List (L2.Key × V)} {xs : List (L2.Key × D)}, RepK Ω G vs xs → RepK Ω G' vs xs
  | _, _, .nil => .nil
  | _, _, .cons h r => .cons (Rep.mono s h) (RepK.mono s r)
theorem RepT.mono (s : Same G G') : ∀ {vs : List (List L2.Key × V)} {xs : List (List L2.Key × D)}, RepT Ω G vs xs → RepT Ω G' vs xs
  | _, _, .nil => .nil
  | _, _, .cons h r => .cons (Rep.mono s h) (RepT.mono s r)
theorem RepN.mono (s : Same G G') : ∀ {vs : List (NK × Addr × V)} {xs : List (NK × D)}, RepN Ω G vs xs → RepN Ω G' vs xs
  | _, _, .nil => .nil
  | _, _, .cons k h r => .cons (k.mono s) (Rep.mono s h) (RepN.mono s r)
end
theorem Reps.length : ∀ {vs : List V} {xs : List D}, Reps Ω G vs xs → vs.length = xs.length
  | _, _, .nil => rfl
  | _, _, .cons _ r => by rw [List.length_cons, List.length_cons, r.length]
theorem Reps.at : ∀ {vs : List V} {xs : List D} {i : Nat} {v : V}, Reps Ω G vs xs → vs[i]? = some v → ∃ x, xs[i]? = some x ∧ Rep Ω G v x
  | _, _, _, _, .nil, h => by simp at h
  | _, _, 0, _, .cons x r, h => by
    simp at h
    subst h
    exact ⟨_, rfl, x⟩
  | _, _, i + 1, v, .cons x r, h => by
    obtain ⟨b, h1, h2⟩ := Reps.at (i := i) (v := v) r (by simpa using h)
    exact ⟨b, by simpa using h1, h2⟩
theorem Reps.at' : ∀ {vs : List V} {xs : List D} {i : Nat} {x : D}, Reps Ω G vs xs → xs[i]? = some x → ∃ v, vs[i]? = some v ∧ Rep Ω G v x
  | _, _, _, _, .nil, h => by simp at h
  | _, _, 0, _, .cons x r, h => by
    simp at h
    subst h
    exact ⟨_, rfl, x⟩
  | _, _, i + 1, v, .cons x r, h => by
    obtain ⟨b, h1, h2⟩ := Reps.at' (i := i) (x := v) r (by simpa using h)
    exact ⟨b, by simpa using h1, h2⟩
theorem Reps.app {us : List V} {ys : List D} (q : Reps Ω G us ys) : ∀ {vs : List V} {xs : List D}, Reps Ω G vs xs → Reps Ω G (vs ++ us) (xs ++ ys)
  | _, _, .nil => q
  | _, _, .cons h r => .cons h (Reps.app q r)
theorem Reps.snoc {vs : List V} {xs : List D} {v : V} {x : D} (r : Reps Ω G vs xs) (h : Rep Ω G v x) : Reps Ω G (vs ++ [v]) (xs ++ [x]) := Reps.app (.cons h .nil) r
theorem Reps.drop : ∀ {vs : List V} {xs : List D} (n : Nat), Reps Ω G vs xs → Reps Ω G (vs.drop n) (xs.drop n)
  | _, _, 0, r => r
  | _, _, _ + 1, .nil => .nil
  | _, _, n + 1, .cons _ r => Reps.drop n r
theorem Reps.take : ∀ {vs : List V} {xs : List D} (n : Nat), Reps Ω G vs xs → Reps Ω G (vs.take n) (xs.take n)
  | _, _, 0, _ => .nil
  | _, _, _ + 1, .nil => .nil
  | _, _, n + 1, .cons h r => .cons h (Reps.take n r)
theorem Reps.set {v : V} {x : D} (h : Rep Ω G v x) : ∀ {vs : List V} {xs : List D} (i : Nat), Reps Ω G vs xs → Reps Ω G (vs.set i v) (xs.set i x)
  | _, _, _, .nil => .nil
  | _, _, 0, .cons _ r => .cons h r
  | _, _, i + 1, .cons h' r => .cons h' (Reps.set h i r)
theorem Reps.flat {vs : List V} {xs : List D} (r : Reps Ω G vs xs) : ∀ n : Nat, Reps Ω G (List.replicate n vs).flatten (List.replicate n xs).flatten
  | 0 => .nil
  | n + 1 => by
    rw [List.replicate_succ, List.replicate_succ, List.flatten_cons, List.flatten_cons]
    exact Reps.app (Reps.flat r n) r
theorem Reps.one {vs : List V} {x : D} (r : Reps Ω G vs [x]) : ∃ v, vs = [v] ∧ Rep Ω G v x := by
  cases r with
  | cons h r => cases r; exact ⟨_, rfl, h⟩
end
/-- what one may have of one's own -/
def MutO : HO → Prop
  | .lst _ => True
  | .dK _ => True
  | .dT _ => True
  | .ext φ => ∀ c q, LamX.CodeO c q ≠ .ext φ
  | _ => False
theorem MutO.nt {o : HO} (f : MutO o) : ∀ ps, o ≠ .tbl ps := fun _ e => by
  subst e
  exact f
/-- what never changes -/
def Fx : HO → Prop
  | .tup _ => True
  | .frz _ _ => True
  | _ => False
theorem Fx.nt {o : HO} (f : Fx o) : ∀ ps, o ≠ .tbl ps := fun _ e => by
  subst e
  exact f
theorem Fx.nl {o : HO} (f : Fx o) : ∀ xs, o ≠ .lst xs := fun _ e => by
  subst e
  exact f
structure Am where
  I : Hp → Prop
  gd : Addr → HO → Prop
  nw : Addr → Prop
  bg : Option Addr
  mono : ∀ {H H'}, Same H H' → I H → I H'
  put : ∀ {H a o o'}, I H → nw a → H a = some o → MutO o → I (upd H a o')
  unl : ∀ {H a od u o'}, I H → nw a → H a = some (.frz od u) → I (upd H a o')
  al : ∀ {H p o}, I H → H p = none → (∀ ps, o ≠ .tbl ps) → gd p o
  fr : ∀ {H p}, I H → H p = none → nw p
  gl : ∀ {a o}, nw a → MutO o → gd a o
  fx : ∀ {H a o}, I H → H a = some o → Fx o → gd a o
def New (G G' H : Hp) : Prop := ∀ a o, G' a = some o → G a = some o ∨ (H a = none ∧ ∀ ps, o ≠ .tbl ps) ∨ Fx o
theorem New.refl (G H : Hp) : New G G H := fun _ _ h => .inl h
structure Fr (A : Am) (G H : Hp) : Prop where
  inv : A.I H
  sub : Same G H
  gd : ∀ a o, G a = some o → A.gd a o
/-- from G, H to G', H': what is in G stays, lists of one's own stay -/
structure Tr (A : Am) (G H G' H' : Hp) : Prop where
  fr : Fr A G' H'
  sub : Same G G'
  own : ∀ a o, MutO o → H a = some o → A.nw a → G a = none → H' a = some o ∧ G' a = none
section
variable {A : Am} {G G1 G2 H H1 H2 : Hp}
theorem Tr.refl (f : Fr A G H) : Tr A G H G H := ⟨f, Same.refl _, fun _ _ _ h _ n => ⟨h, n⟩⟩
theorem Tr.trans (x : Tr A G H G1 H1) (y : Tr A G1 H1 G2 H2) : Tr A G H G2 H2 := ⟨y.fr, x.sub.trans y.sub, fun a vs m h n g => by
  obtain ⟨h1, g1⟩ := x.own a vs m h n g
  exact y.own a vs m h1 n g1⟩
theorem sameNew {G : Hp} {p : Addr} {o : HO} (n : G p = none) : Same G (upd G p o) := fun a u h => by
  rw [upd_ne (ne_of_none h n)]
  exact h
/-- a new thing that never changes -/
theorem Tr.alloc (f : Fr A G H) {p : Addr} {o : HO} (n : H p = none) (nt : ∀ ps, o ≠ .tbl ps) : Tr A G H (upd G p o) (upd H p o) := by
  have gn : G p = none := f.sub.free n
  refine ⟨⟨A.mono (sameNew n) f.inv, fun a u h => ?_, fun a u h => ?_⟩, sameNew gn, fun a vs _ h _ g => ?_⟩
  · by_cases e : a = p
    · subst e
      rw [upd_same] at h ⊢
      exact h
    · rw [upd_ne e] at h ⊢
      exact f.sub _ _ h
  · by_cases e : a = p
    · subst e
      rw [upd_same] at h
      cases h
      exact A.al f.inv n nt
    · rw [upd_ne e] at h
      exact f.gd _ _ h
  · have ne := ne_of_none h n
    rw [upd_ne ne, upd_ne ne]
    exact ⟨h, g⟩
/-- a new list of one's own -/
theorem Tr.allocOwn (f : Fr A G H) {p : Addr} {o : HO} (n : H p = none) : Tr A G H G (upd H p o) := by
  refine ⟨⟨A.mono (sameNew n) f.inv, fun a u h => ?_, f.gd⟩, Same.refl _, fun a vs _ h _ g => ?_⟩
  · rw [upd_ne (ne_of_none (f.sub _ _ h) n)]
    exact f.sub _ _ h
  · rw [upd_ne (ne_of_none h n)]
    exact ⟨h, g⟩
/-- a call that leaves all as it was -/
theorem Tr.call (f : Fr A G H) (s : Same H H1) (g : Same G G1) (k : Same G1 H1) (n : New G G1 H) : Tr A G H G1 H1 := by
  refine ⟨⟨A.mono s f.inv, k, fun a o h => ?_⟩, g, fun a vs mo h _ gn => ⟨s _ _ h, ?_⟩⟩
  · rcases n a o h with h1 | ⟨h1, nt⟩ | h1
    · exact f.gd _ _ h1
    · exact A.al f.inv h1 nt
    · exact A.fx (A.mono s f.inv) (k _ _ h) h1
  · cases q : G1 a with
    | none => rfl
    | some o =>
      rcases n a o q with h1 | ⟨h1, _⟩ | h1
      · rw [gn] at h1
        cases h1
      · rw [h] at h1
        cases h1
      · have z := k _ _ q
        rw [s _ _ h] at z
        cases z
        cases vs <;> first | exact h1.elim | exact mo.elim
theorem Tr.same (f : Fr A G H) (s : Same H H1) : Tr A G H G H1 := Tr.call f s (Same.refl _) (f.sub.trans s) (New.refl _ _)
end
/-- the head of lists of one's own: a list, a dict -/
inductive Hd where
  | l | k (ks : List L2.Key) | t (ks : List (List L2.Key)) | n (ks : List NK)
inductive E1 where
  | no | d (x : D) | own (xs : List D) | bag | ownK (kvs : List (L2.Key × D)) | ownT (kvs : List (List L2.Key × D)) | ownD (kvs : List (NK × D)) | cl (h : Hd) (ls : List Addr) (xss : List (List D))
abbrev Env := List E1
def get : Env → Nat → E1
  | [], _ => .no
  | e :: _, 0 => e
  | _ :: es, n + 1 => get es n
def put : Env → Nat → E1 → Env
  | [], _, _ => []
  | _ :: es, 0, x => x :: es
  | e :: es, n + 1, x => e :: put es n x
theorem put_len : ∀ (env : Env) (i : Nat) (e : E1), (put env i e).length = env.length
  | [], _, _ => rfl
  | _ :: _, 0, _ => rfl
  | _ :: es, n + 1, x => by unfold put; rw [List.length_cons, List.length_cons, put_len es n x]
theorem get_put : ∀ (env : Env) (i : Nat) (e : E1), i < env.length → get (put env i e) i = e
  | [], _, _, h => absurd h (by simp)
  | _ :: _, 0, _, _ => rfl
  | _ :: es, n + 1, x, h => get_put es n x (by simpa using h)
theorem get_put_ne : ∀ (env : Env) (i j : Nat) (e : E1), j ≠ i → get (put env i e) j = get env j
  | [], _, _, _, _ => rfl
  | _ :: _, 0, 0, _, h => absurd rfl h
  | _ :: _, 0, _ + 1, _, _ => rfl
  | _ :: _, _ + 1, 0, _, _ => rfl
  | _ :: es, i + 1, j + 1, x, h => get_put_ne es i j x (fun e => h (by rw [e]))
theorem get_out : ∀ (env : Env) (i : Nat), env.length ≤ i → get env i = .no
  | [], _, _ => rfl
  | _ :: _, 0, h => absurd h (by simp)
  | _ :: es, n + 1, h => get_out es n (by simpa using h)
def sl (σ : L2.St) (i : Nat) : Option V := (σ[i]?).getD none
theorem sl_some {σ : L2.St} {i : Nat} {v : V} (h : sl σ i = some v) : σ[i]? = some (some v) := by
  unfold sl at h
  cases q : σ[i]? with
  | none => rw [q] at h; cases h
  | some o => rw [q] at h; exact congrArg some h
theorem sl_set {σ : L2.St} {i : Nat} {o : Option V} (h : i < σ.length) : sl (σ.set i o) i = o := by
  unfold sl
  rw [List.getElem?_set_self h]
  rfl
theorem sl_set_ne {σ : L2.St} {i j : Nat} {o : Option V} (h : j ≠ i) : sl (σ.set i o) j = sl σ j := by
  unfold sl
  rw [List.getElem?_set_ne (fun e => h e.symm)]
/-- the head's object -/
def HdO (Ω : Obs) (G : Hp) (a : Addr) (ls : List Addr) : Hd → HO → Prop
  | .l, .lst vs => vs = ls.map .ref
  | .k ks, .dK vs => vs = ks.zip (ls.map .ref) ∧ ks.length = ls.length
  | .t ks, .dT vs => vs = ks.zip (ls.map .ref) ∧ ks.length = ls.length
  | .n ks, .ext φ => ∃ bs : List Addr, (φ = Ω.nd a (ks.zip (bs.zip (ls.map .ref))) ∧ MutO (.ext φ)) ∧ ks.length = ls.length ∧ bs.length = ls.length ∧ ∀ p ∈ ks.zip bs, KeyIs G (.ref p.2) p.1
  | _, _ => False
theorem HdO.mono {Ω : Obs} {G G' : Hp} (s : Same G G') {a : Addr} {ls : List Addr} {h : Hd} {o : HO} (r : HdO Ω G a ls h o) : HdO Ω G' a ls h o := by
  cases h <;> cases o <;> first | exact r.elim | exact r | exact ⟨r.choose, r.choose_spec.1, r.choose_spec.2.1, r.choose_spec.2.2.1, fun p hp => (r.choose_spec.2.2.2 p hp).mono s⟩
/-- the object of a slot of one's own -/
def OwnR (Ω : Obs) (G : Hp) (a : Addr) : E1 → HO → Prop
  | .own xs, .lst vs => Reps Ω G vs xs
  | .ownK xs, .dK vs => RepK Ω G vs xs
  | .ownT xs, .dT vs => RepT Ω G vs xs
  | .ownD xs, .ext φ => ∃ vs, (φ = Ω.nd a vs ∧ MutO (.ext φ)) ∧ RepN Ω G vs xs
  | .cl h ls xss, o => HdO Ω G a ls h o ∧ ls.length = xss.length
  | _, _ => False
theorem OwnR.mut {Ω : Obs} {G : Hp} {a : Addr} {e : E1} {o : HO} (h : OwnR Ω G a e o) : MutO o := by
  cases e with
  | cl h' ls xss => cases h' <;> cases o <;> first | exact trivial | exact h.1.elim | exact h.1.choose_spec.1.2
  | _ => cases o <;> first | exact trivial | exact h.elim | exact h.choose_spec.1.2
theorem OwnR.mono {Ω : Obs} {G G' : Hp} {a : Addr} (s : Same G G') {e : E1} {o : HO} (h : OwnR Ω G a e o) : OwnR Ω G' a e o := by
  cases e with
  | cl h' ls xss => exact ⟨h.1.mono s, h.2⟩
  | ownD xs => cases o <;> first | exact h.elim | exact ⟨h.choose, h.choose_spec.1, h.choose_spec.2.mono s⟩
  | _ => cases o <;> first | exact h.elim | exact Reps.mono s h | exact RepK.mono s h | exact RepT.mono s h
def isOwn : E1 → Bool
  | .own _ => true
  | .ownK _ => true
  | .ownT _ => true
  | .ownD _ => true
  | .cl _ _ _ => true
  | _ => false
/-- the lists that a head holds -/
def inE : E1 → List Addr
  | .cl _ ls _ => ls
  | _ => []
/-- a slot of one's own -/
def SlotO (Ω : Obs) (A : Am) (G H : Hp) (s : Option V) (e : E1) : Prop := ∃ a o, s = some (.ref a) ∧ H a = some o ∧ OwnR Ω G a e o ∧ G a = none ∧ A.nw a
def SlotR (Ω : Obs) (A : Am) (G H : Hp) : Option V → E1 → Prop
  | _, .no => True
  | o, .d x => ∃ v, o = some v ∧ Rep Ω G v x
  | o, .bag => ∃ b, A.bg = some b ∧ o = some (.ref b)
  | o, .own xs => SlotO Ω A G H o (.own xs)
  | o, .ownK xs => SlotO Ω A G H o (.ownK xs)
  | o, .ownT xs => SlotO Ω A G H o (.ownT xs)
  | o, .ownD xs => SlotO Ω A G H o (.ownD xs)
  | o, .cl h ls xss => SlotO Ω A G H o (.cl h ls xss)
theorem SlotR.o {Ω : Obs} {A : Am} {G H : Hp} {s : Option V} {e : E1} (w : isOwn e = true) (h : SlotR Ω A G H s e) : SlotO Ω A G H s e := by
  cases e <;> first | exact h | cases w
theorem SlotO.r {Ω : Obs} {A : Am} {G H : Hp} {s : Option V} {e : E1} (w : isOwn e = true) (h : SlotO Ω A G H s e) : SlotR Ω A G H s e := by
  cases e <;> first | exact h | cases w
/-- a slot's word in another heap -/
theorem SlotR.to {Ω : Obs} {A : Am} {G G' H H' : Hp} {s : Option V} {e : E1} (sg : Same G G') (ow : isOwn e = true → SlotO Ω A G H s e → SlotO Ω A G' H' s e) (h : SlotR Ω A G H s e) : SlotR Ω A G' H' s e := by
  cases e with
  | no => exact trivial
  | d x => exact ⟨h.choose, h.choose_spec.1, h.choose_spec.2.mono sg⟩
  | bag => exact h
  | _ => exact ow rfl h
/-- the lists that a head holds are there -/
def InnL (Ω : Obs) (A : Am) (G H : Hp) : List Addr → List (List D) → Prop
  | [], [] => True
  | l :: ls, xs :: xss => (∃ us, H l = some (.lst us) ∧ Reps Ω G us xs ∧ G l = none ∧ A.nw l) ∧ InnL Ω A G H ls xss
  | _, _ => False
theorem InnL.mem {Ω : Obs} {A : Am} {G H : Hp} : ∀ {ls : List Addr} {xss : List (List D)}, InnL Ω A G H ls xss → ∀ l ∈ ls, ∃ us, H l = some (.lst us) ∧ G l = none ∧ A.nw l
  | [], [], _, _, h => by cases h
  | _ :: _, _ :: _, h, _, m => by
    rcases List.mem_cons.mp m with rfl | m
    · obtain ⟨us, h1, _, h2⟩ := h.1
      exact ⟨us, h1, h2⟩
    · exact InnL.mem h.2 _ m
  | [], _ :: _, h, _, _ => h.elim
  | _ :: _, [], h, _, _ => h.elim
theorem InnL.to {Ω : Obs} {A : Am} {G G' H H' : Hp} (sg : Same G G') : ∀ {ls : List Addr} {xss : List (List D)}, (∀ l ∈ ls, ∀ us, H l = some (.lst us) → A.nw l → G l = none → H' l = some (.lst us) ∧ G' l = none) → InnL Ω A G H ls xss → InnL Ω A G' H' ls xss
  | [], [], _, _ => trivial
  | _ :: _, _ :: _, f, h => by
    obtain ⟨us, h1, r, g, n⟩ := h.1
    obtain ⟨h', g'⟩ := f _ List.mem_cons_self us h1 n g
    exact ⟨⟨us, h', r.mono sg, g', n⟩, InnL.to sg (fun l m => f l (List.mem_cons_of_mem _ m)) h.2⟩
  | [], _ :: _, _, h => h.elim
  | _ :: _, [], _, h => h.elim
theorem InnL.len {Ω : Obs} {A : Am} {G H : Hp} : ∀ {ls : List Addr} {xss : List (List D)}, InnL Ω A G H ls xss → ls.length = xss.length
  | [], [], _ => rfl
  | _ :: _, _ :: _, h => by rw [List.length_cons, List.length_cons, InnL.len h.2]
  | [], _ :: _, h => h.elim
  | _ :: _, [], h => h.elim
/-- what a slot's head holds is there, and no other slot has it -/
structure Inn (Ω : Obs) (A : Am) (G H : Hp) (σ : L2.St) (env : Env) (i : Nat) (ls : List Addr) (xss : List (List D)) : Prop where
  there : InnL Ω A G H ls xss
  nodup : ls.Nodup
  heads : ∀ j, isOwn (get env j) = true → ∀ b ∈ ls, sl σ j ≠ some (.ref b)
  others : ∀ j, j ≠ i → ∀ b ∈ ls, b ∉ inE (get env j)
structure Ok (Ω : Obs) (A : Am) (G : Hp) (σ : L2.St) (env : Env) (H : Hp) : Prop where
  fr : Fr A G H
  len : σ.length = env.length
  slot : ∀ i, SlotR Ω A G H (sl σ i) (get env i)
  dist : ∀ i j, isOwn (get env i) = true → isOwn (get env j) = true → i ≠ j → sl σ i ≠ sl σ j
  inn : ∀ i h ls xss, get env i = .cl h ls xss → Inn Ω A G H σ env i ls xss
/-- it is no list of one's own of before -/
def FreshO (A : Am) (G H : Hp) (a : Addr) : Prop := ∀ b o, MutO o → H b = some o → A.nw b → G b = none → b ≠ a
theorem FreshO.of {A : Am} {G H G' H' : Hp} {a : Addr} (t : Tr A G H G' H') (n : H' a = none) : FreshO A G H a := fun b us m h nw g => ne_of_none (t.own b us m h nw g).1 n
theorem FreshO.tr {A : Am} {G H G' H' : Hp} {a : Addr} (t : Tr A G H G' H') (n : FreshO A G' H' a) : FreshO A G H a := fun b us m h nw g => n b us m (t.own b us m h nw g).1 nw (t.own b us m h nw g).2
section
variable {Ω : Obs} {A : Am} {G G' H H' : Hp} {σ : L2.St} {env : Env}
theorem SlotO.tr (t : Tr A G H G' H') {o : Option V} {e : E1} (h : SlotO Ω A G H o e) : SlotO Ω A G' H' o e := by
  obtain ⟨a, u, e1, h1, r, g, n⟩ := h
  obtain ⟨h', g'⟩ := t.own a u r.mut h1 n g
  exact ⟨a, u, e1, h', r.mono t.sub, g', n⟩
theorem SlotR.tr (t : Tr A G H G' H') {o : Option V} {e : E1} (h : SlotR Ω A G H o e) : SlotR Ω A G' H' o e := h.to t.sub fun _ z => z.tr t
theorem Ok.tr (k : Ok Ω A G σ env H) (t : Tr A G H G' H') : Ok Ω A G' σ env H' := ⟨t.fr, k.len, fun i => (k.slot i).tr t, k.dist, fun i h ls xss e =>
  let z := k.inn i h ls xss e
  ⟨z.there.to t.sub fun l _ us h1 n g => t.own l (.lst us) trivial h1 n g, z.nodup, z.heads, z.others⟩⟩
theorem Ok.d (k : Ok Ω A G σ env H) {i : Nat} {x : D} (e : get env i = .d x) : ∃ v, σ[i]? = some (some v) ∧ Rep Ω G v x := by
  have z := k.slot i
  rw [e] at z
  obtain ⟨v, e1, r⟩ := z
  exact ⟨v, sl_some e1, r⟩
theorem Ok.ownO (k : Ok Ω A G σ env H) {i : Nat} {e : E1} (h : get env i = e) (w : isOwn e = true) : ∃ a o, σ[i]? = some (some (.ref a)) ∧ H a = some o ∧ OwnR Ω G a e o ∧ G a = none ∧ A.nw a := by
  have z := k.slot i
  rw [h] at z
  obtain ⟨a, o, e1, r⟩ := z.o w
  exact ⟨a, o, sl_some e1, r⟩
theorem Ok.own (k : Ok Ω A G σ env H) {i : Nat} {xs : List D} (e : get env i = .own xs) : ∃ a vs, σ[i]? = some (some (.ref a)) ∧ H a = some (.lst vs) ∧ Reps Ω G vs xs ∧ G a = none ∧ A.nw a := by
  obtain ⟨a, o, h1, h2, h3, h4⟩ := k.ownO e rfl
  cases o <;> first | exact ⟨a, _, h1, h2, h3, h4⟩ | exact h3.elim
theorem Ok.ownK (k : Ok Ω A G σ env H) {i : Nat} {xs : List (L2.Key × D)} (e : get env i = .ownK xs) : ∃ a vs, σ[i]? = some (some (.ref a)) ∧ H a = some (.dK vs) ∧ RepK Ω G vs xs ∧ G a = none ∧ A.nw a := by
  obtain ⟨a, o, h1, h2, h3, h4⟩ := k.ownO e rfl
  cases o <;> first | exact ⟨a, _, h1, h2, h3, h4⟩ | exact h3.elim
theorem Ok.ownT (k : Ok Ω A G σ env H) {i : Nat} {xs : List (List L2.Key × D)} (e : get env i = .ownT xs) : ∃ a vs, σ[i]? = some (some (.ref a)) ∧ H a = some (.dT vs) ∧ RepT Ω G vs xs ∧ G a = none ∧ A.nw a := by
  obtain ⟨a, o, h1, h2, h3, h4⟩ := k.ownO e rfl
  cases o <;> first | exact ⟨a, _, h1, h2, h3, h4⟩ | exact h3.elim
theorem Ok.ownD (k : Ok Ω A G σ env H) {i : Nat} {xs : List (NK × D)} (e : get env i = .ownD xs) : ∃ a vs, σ[i]? = some (some (.ref a)) ∧ H a = some (.ext (Ω.nd a vs)) ∧ RepN Ω G vs xs ∧ G a = none ∧ A.nw a := by
  obtain ⟨a, o, h1, h2, h3, h4⟩ := k.ownO e rfl
  cases o with
  | ext φ =>
    obtain ⟨vs, ⟨e1, _⟩, r⟩ := h3
    subst e1
    exact ⟨a, vs, h1, h2, r, h4⟩
  | _ => exact h3.elim
theorem Ok.bagd (k : Ok Ω A G σ env H) {i : Nat} (e : get env i = .bag) : ∃ b, A.bg = some b ∧ σ[i]? = some (some (.ref b)) := by
  have z := k.slot i
  rw [e] at z
  obtain ⟨b, e1, e2⟩ := z
  exact ⟨b, e1, sl_some e2⟩
/-- what is new is in no slot -/
theorem Ok.farO (k : Ok Ω A G σ env H) {a : Addr} (f : FreshO A G H a) : ∀ j, isOwn (get env j) = true → sl σ j ≠ some (.ref a) := fun j hj e => by
  obtain ⟨b, ws, hb, h1, r1, g1, n1⟩ := k.ownO rfl hj
  have e2 : sl σ j = some (.ref b) := by unfold sl; rw [hb]; rfl
  rw [e] at e2
  injection e2 with e2
  injection e2 with e2
  exact f b ws r1.mut h1 n1 g1 e2.symm
theorem Ok.farI (k : Ok Ω A G σ env H) {a : Addr} (f : FreshO A G H a) : ∀ j, a ∉ inE (get env j) := fun j m => by
  cases e : get env j with
  | cl h ls xss =>
    rw [e] at m
    obtain ⟨us, h1, g, n⟩ := (k.inn j h ls xss e).there.mem a m
    exact f a (.lst us) trivial h1 n g rfl
  | _ => rw [e] at m; cases m
theorem inE_put {env : Env} {i j : Nat} {e : E1} (h : inE e = []) {b : Addr} (m : b ∈ inE (get (put env i e) j)) : j ≠ i ∧ b ∈ inE (get env j) := by
  by_cases ej : j = i
  · subst ej
    by_cases lt : j < env.length
    · rw [get_put _ _ _ lt, h] at m
      cases m
    · rw [get_out _ _ (by rw [put_len]; omega)] at m
      cases m
  · rw [get_put_ne _ _ _ _ ej] at m
    exact ⟨ej, m⟩
theorem cl_put {env : Env} {i j : Nat} {e : E1} (w : ∀ h ls xss, e ≠ .cl h ls xss) {h : Hd} {ls : List Addr} {xss : List (List D)} (m : get (put env i e) j = .cl h ls xss) : j ≠ i ∧ get env j = .cl h ls xss := by
  by_cases ej : j = i
  · subst ej
    by_cases lt : j < env.length
    · rw [get_put _ _ _ lt] at m
      exact absurd m (w _ _ _)
    · rw [get_out _ _ (by rw [put_len]; omega)] at m
      cases m
  · rw [get_put_ne _ _ _ _ ej] at m
    exact ⟨ej, m⟩
theorem own_cl {e : E1} (w : isOwn e = false) : ∀ h ls xss, e ≠ .cl h ls xss := fun h ls xss z => by
  subst z
  cases w
theorem inE_cl {e : E1} (w : ∀ h ls xss, e ≠ .cl h ls xss) : inE e = [] := by
  cases e <;> first | rfl | exact absurd rfl (w _ _ _)
/-- a slot is set to what is not of one's own -/
theorem Ok.set0 (k : Ok Ω A G σ env H) (i : Nat) {o : Option V} {e : E1} (w : isOwn e = false) (r : SlotR Ω A G H o e) : Ok Ω A G (σ.set i o) (put env i e) H := by
  have no : ∀ j, isOwn (get (put env i e) j) = true → j ≠ i := fun j h ej => by
    subst ej
    by_cases lt : j < env.length
    · rw [get_put _ _ _ lt, w] at h
      cases h
    · rw [get_out _ _ (by rw [put_len]; omega)] at h
      cases h
  refine ⟨k.fr, by rw [List.length_set, put_len, k.len], fun j => ?_, fun j l h1 h2 ne => ?_, fun j h ls xss ej => ?_⟩
  · by_cases ej : j = i
    · subst ej
      by_cases lt : j < env.length
      · rw [get_put _ _ _ lt, sl_set (by rw [k.len]; exact lt)]
        exact r
      · rw [get_out _ _ (by rw [put_len]; omega)]
        exact trivial
    · rw [get_put_ne _ _ _ _ ej, sl_set_ne ej]
      exact k.slot j
  · have nj := no j h1
    have nl := no l h2
    rw [get_put_ne _ _ _ _ nj] at h1
    rw [get_put_ne _ _ _ _ nl] at h2
    rw [sl_set_ne nj, sl_set_ne nl]
    exact k.dist j l h1 h2 ne
  · obtain ⟨ne, e1⟩ := cl_put (own_cl w) ej
    have z := k.inn j h ls xss e1
    refine ⟨z.there, z.nodup, fun l hl b hb => ?_, fun l nl b hb m => z.others l nl b hb (inE_put (inE_cl (own_cl w)) m).2⟩
    have nl := no l hl
    rw [get_put_ne _ _ _ _ nl] at hl
    rw [sl_set_ne nl]
    exact z.heads l hl b hb
/-- a slot is set to a value -/
theorem Ok.set (k : Ok Ω A G σ env H) (i : Nat) {v : V} {x : D} (r : Rep Ω G v x) : Ok Ω A G (σ.set i (some v)) (put env i (.d x)) H := k.set0 i rfl ⟨v, rfl, r⟩
/-- a slot is set to a thing of one's own; no other slot has it -/
theorem Ok.setOwnC (k : Ok Ω A G σ env H) (i : Nat) {a : Addr} {o : HO} {e : E1} (w : isOwn e = true) (h : H a = some o) (r : OwnR Ω G a e o) (g : G a = none) (n : A.nw a) (far : ∀ j, isOwn (get env j) = true → j ≠ i → sl σ j ≠ some (.ref a)) (farI : ∀ j, j ≠ i → a ∉ inE (get env j))
    (cl : ∀ h ls xss, e = .cl h ls xss → InnL Ω A G H ls xss ∧ ls.Nodup ∧ a ∉ ls ∧ (∀ j, isOwn (get env j) = true → j ≠ i → ∀ b ∈ ls, sl σ j ≠ some (.ref b)) ∧ ∀ j, j ≠ i → ∀ b ∈ ls, b ∉ inE (get env j)) : Ok Ω A G (σ.set i (some (.ref a))) (put env i e) H := by
  by_cases lt : i < env.length
  · refine ⟨k.fr, by rw [List.length_set, put_len, k.len], fun j => ?_, fun j l h1 h2 ne => ?_, fun j h' ls xss ej => ?_⟩
    · by_cases ej : j = i
      · subst ej
        rw [get_put _ _ _ lt, sl_set (by rw [k.len]; exact lt)]
        exact SlotO.r w ⟨a, o, rfl, h, r, g, n⟩
      · rw [get_put_ne _ _ _ _ ej, sl_set_ne ej]
        exact k.slot j
    · by_cases ej : j = i
      · subst ej
        have el : l ≠ j := fun e => ne e.symm
        rw [sl_set (by rw [k.len]; exact lt), sl_set_ne el]
        rw [get_put_ne _ _ _ _ el] at h2
        exact fun e => far l h2 el e.symm
      · by_cases el : l = i
        · subst el
          rw [sl_set (by rw [k.len]; exact lt), sl_set_ne ej]
          rw [get_put_ne _ _ _ _ ej] at h1
          exact far j h1 ej
        · rw [get_put_ne _ _ _ _ ej] at h1
          rw [get_put_ne _ _ _ _ el] at h2
          rw [sl_set_ne ej, sl_set_ne el]
          exact k.dist j l h1 h2 ne
    · by_cases ei : j = i
      · subst ei
        rw [get_put _ _ _ lt] at ej
        obtain ⟨c1, c2, c3, c4, c5⟩ := cl _ _ _ ej
        refine ⟨c1, c2, fun l hl b hb => ?_, fun l nl b hb => ?_⟩
        · by_cases el : l = j
          · subst el
            rw [sl_set (by rw [k.len]; exact lt)]
            intro z
            injection z with z
            injection z with z
            exact c3 (by rw [z]; exact hb)
          · rw [get_put_ne _ _ _ _ el] at hl
            rw [sl_set_ne el]
            exact c4 l hl el b hb
        · rw [get_put_ne _ _ _ _ nl]
          exact c5 l nl b hb
      · rw [get_put_ne _ _ _ _ ei] at ej
        have z := k.inn j h' ls xss ej
        refine ⟨z.there, z.nodup, fun l hl b hb => ?_, fun l nl b hb => ?_⟩
        · by_cases el : l = i
          · subst el
            rw [sl_set (by rw [k.len]; exact lt)]
            intro y
            injection y with y
            injection y with y
            have m := farI j ei
            rw [ej] at m
            exact m (by rw [y]; exact hb)
          · rw [get_put_ne _ _ _ _ el] at hl
            rw [sl_set_ne el]
            exact z.heads l hl b hb
        · by_cases el : l = i
          · subst el
            rw [get_put _ _ _ lt]
            intro m
            cases e with
            | cl h2 ls2 xss2 =>
              have y := (cl _ _ _ rfl).2.2.2.2 j ei b m
              rw [ej] at y
              exact y hb
            | _ => cases m
          · rw [get_put_ne _ _ _ _ el]
            exact z.others l nl b hb
  · have oj : put env i e = env := by
      clear cl far farI r w
      induction env generalizing i with
      | nil => rfl
      | cons x xs ih =>
        cases i with
        | zero => exact absurd (Nat.zero_lt_succ _) lt
        | succ i =>
          show x :: put xs i e = x :: xs
          congr 1
          clear k ih
          have lt : ¬ i < xs.length := fun z => lt (Nat.succ_lt_succ z)
          induction xs generalizing i with
          | nil => rfl
          | cons y ys ih =>
            cases i with
            | zero => exact absurd (Nat.zero_lt_succ _) lt
            | succ i =>
              show y :: put ys i e = y :: ys
              rw [ih i (fun z => lt (by simpa using z)) (fun z => lt (Nat.succ_lt_succ z))]
    have os : σ.set i (some (.ref a)) = σ := List.set_eq_of_length_le (by rw [k.len]; omega)
    rw [oj, os]
    exact k
theorem Ok.setOwnO (k : Ok Ω A G σ env H) (i : Nat) {a : Addr} {o : HO} {e : E1} (w : isOwn e = true) (wc : ∀ h ls xss, e ≠ .cl h ls xss) (h : H a = some o) (r : OwnR Ω G a e o) (g : G a = none) (n : A.nw a) (far : ∀ j, isOwn (get env j) = true → j ≠ i → sl σ j ≠ some (.ref a)) (farI : ∀ j, j ≠ i → a ∉ inE (get env j)) : Ok Ω A G (σ.set i (some (.ref a))) (put env i e) H := k.setOwnC i w h r g n far farI fun h ls xss z => absurd z (wc _ _ _)
theorem Ok.setOwn (k : Ok Ω A G σ env H) (i : Nat) {a : Addr} {vs : List V} {xs : List D} (h : H a = some (.lst vs)) (r : Reps Ω G vs xs) (g : G a = none) (n : A.nw a) (far : ∀ j, isOwn (get env j) = true → j ≠ i → sl σ j ≠ some (.ref a)) (farI : ∀ j, j ≠ i → a ∉ inE (get env j)) : Ok Ω A G (σ.set i (some (.ref a))) (put env i (.own xs)) H := k.setOwnO i (e := .own xs) rfl (fun _ _ _ z => nomatch z) h r g n far farI
/-- a thing of one's own gets another content -/
theorem Ok.turnO (k : Ok Ω A G σ env H) {i : Nat} {a : Addr} {e e' : E1} {u : HO} (h : get env i = e) (w : isOwn e = true) (wc : ∀ h ls xss, e' ≠ .cl h ls xss) (w' : isOwn e' = true) (s : σ[i]? = some (some (.ref a))) (r : OwnR Ω G a e' u) : Ok Ω A G σ (put env i e') (upd H a u) := by
  obtain ⟨a', o, s', ho, ro, g, n⟩ := k.ownO h w
  have ea : a' = a := by
    rw [s] at s'
    injection s' with s'
    injection s' with s'
    injection s' with s'
    exact s'.symm
  subst ea
  have lt : i < env.length := by
    have z := (List.getElem?_eq_some_iff.mp s).1
    rw [k.len] at z
    exact z
  have sli : sl σ i = some (.ref a') := by
    unfold sl
    rw [s]
    rfl
  have wi : isOwn (get env i) = true := by rw [h]; exact w
  have other : ∀ j, j ≠ i → isOwn (get env j) = true → SlotO Ω A G H (sl σ j) (get env j) → SlotO Ω A G (upd H a' u) (sl σ j) (get env j) := fun j ej wj z => by
    obtain ⟨b, o', e1, h1, r1, g1, n1⟩ := z
    have nb : b ≠ a' := fun eb => by
      subst eb
      exact k.dist j i wj wi ej (by rw [e1, sli])
    exact ⟨b, o', e1, by rw [upd_ne nb]; exact h1, r1, g1, n1⟩
  have sub : Same G (upd H a' u) := fun b o q => by
    by_cases eb : b = a'
    · subst eb
      rw [g] at q
      cases q
    · rw [upd_ne eb]
      exact k.fr.sub _ _ q
  refine ⟨⟨A.put k.fr.inv n ho ro.mut, sub, k.fr.gd⟩, by rw [put_len, k.len], fun j => ?_, fun j l h1 h2 ne => ?_, fun j h' ls xss ej => ?_⟩
  · by_cases ej : j = i
    · subst ej
      rw [get_put _ _ _ lt]
      exact SlotO.r w' ⟨a', u, sli, upd_same, r, g, n⟩
    · rw [get_put_ne _ _ _ _ ej]
      exact (k.slot j).to (Same.refl _) (other j ej)
  · by_cases ej : j = i
    · subst ej
      have el : l ≠ j := fun z => ne z.symm
      rw [get_put_ne _ _ _ _ el] at h2
      exact k.dist j l wi h2 ne
    · rw [get_put_ne _ _ _ _ ej] at h1
      by_cases el : l = i
      · subst el
        exact k.dist j l h1 wi ne
      · rw [get_put_ne _ _ _ _ el] at h2
        exact k.dist j l h1 h2 ne
  · obtain ⟨ne, e1⟩ := cl_put wc ej
    have z := k.inn j h' ls xss e1
    refine ⟨z.there.to (Same.refl _) fun l hl us h1 _ g1 => ⟨?_, g1⟩, z.nodup, fun l hl b hb => ?_, fun l nl b hb m => z.others l nl b hb (inE_put (inE_cl wc) m).2⟩
    · rw [upd_ne (fun eb => z.heads i wi l hl (by rw [sli, eb]))]
      exact h1
    · by_cases el : l = i
      · subst el
        exact z.heads l wi b hb
      · rw [get_put_ne _ _ _ _ el] at hl
        exact z.heads l hl b hb
theorem Ok.turn (k : Ok Ω A G σ env H) {i : Nat} {a : Addr} {xs ys : List D} {us : List V} (e : get env i = .own xs) (s : σ[i]? = some (some (.ref a))) (r : Reps Ω G us ys) : Ok Ω A G σ (put env i (.own ys)) (upd H a (.lst us)) := k.turnO (e' := .own ys) e rfl (fun _ _ _ z => nomatch z) rfl s r
/-- a thing of one's own is changed no more -/
def frzD : E1 → D
  | .own xs => .lst xs
  | .ownK xs => .dk xs
  | .ownT xs => .dt xs
  | _ => .non
/-- what may be frozen so -/
def isFz : E1 → Bool
  | .own _ => true
  | .ownK _ => true
  | .ownT _ => true
  | _ => false
theorem isFz.own {e : E1} (h : isFz e = true) : isOwn e = true := by cases e <;> first | rfl | cases h
theorem OwnR.rep {Ω : Obs} {G : Hp} {e : E1} {o : HO} {a : Addr} (w : isFz e = true) (h : OwnR Ω G a e o) (g : G a = some o) : Rep Ω G (.ref a) (frzD e) := by
  cases e <;> first | (cases w; done) | (cases o <;> first | exact h.elim | exact .lst g h | exact .dk g h | exact .dt g h)
/-- a slot's thing is among what never changes, from now on -/
theorem Ok.freezeV (k : Ok Ω A G σ env H) {i : Nat} {a : Addr} {o : HO} {e : E1} {x : D} (he : get env i = e) (w : isOwn e = true) (s : σ[i]? = some (some (.ref a))) (h : H a = some o) (mo : MutO o) (g : G a = none) (n : A.nw a) (r : Rep Ω (upd G a o) (.ref a) x) : Same G (upd G a o) ∧ Ok Ω A (upd G a o) σ (put env i (.d x)) H := by
  have sg : Same G (upd G a o) := sameNew g
  have lt : i < env.length := by
    have z := (List.getElem?_eq_some_iff.mp s).1
    rw [k.len] at z
    exact z
  have sli : sl σ i = some (.ref a) := by
    unfold sl
    rw [s]
    rfl
  have wi : isOwn (get env i) = true := by rw [he]; exact w
  have other : ∀ j, j ≠ i → isOwn (get env j) = true → SlotO Ω A G H (sl σ j) (get env j) → SlotO Ω A (upd G a o) H (sl σ j) (get env j) := fun j ej wj z => by
    obtain ⟨b, o', e1, h1, r1, g1, n1⟩ := z
    have nb : b ≠ a := fun eb => by
      subst eb
      exact k.dist j i wj wi ej (by rw [e1, sli])
    exact ⟨b, o', e1, h1, r1.mono sg, by rw [upd_ne nb]; exact g1, n1⟩
  have no : ∀ j, isOwn (get (put env i (.d x)) j) = true → j ≠ i := fun j hj ej => by
    subst ej
    rw [get_put _ _ _ lt] at hj
    cases hj
  refine ⟨sg, ⟨k.fr.inv, fun b o' q => ?_, fun b o' q => ?_⟩, by rw [put_len, k.len], fun j => ?_, fun j l h1 h2 ne => ?_, fun j h' ls xss ej => ?_⟩
  · by_cases eb : b = a
    · subst eb
      rw [upd_same] at q
      rw [← q]
      exact h
    · rw [upd_ne eb] at q
      exact k.fr.sub _ _ q
  · by_cases eb : b = a
    · subst eb
      rw [upd_same] at q
      cases q
      exact A.gl n mo
    · rw [upd_ne eb] at q
      exact k.fr.gd _ _ q
  · by_cases ej : j = i
    · subst ej
      rw [get_put _ _ _ lt]
      exact ⟨.ref a, sli, r⟩
    · rw [get_put_ne _ _ _ _ ej]
      exact (k.slot j).to sg (other j ej)
  · have nj := no j h1
    have nl := no l h2
    rw [get_put_ne _ _ _ _ nj] at h1
    rw [get_put_ne _ _ _ _ nl] at h2
    exact k.dist j l h1 h2 ne
  · obtain ⟨ne, e1⟩ := cl_put (e := .d x) (fun _ _ _ z => nomatch z) ej
    have z := k.inn j h' ls xss e1
    refine ⟨z.there.to sg fun l hl us h1 _ g1 => ⟨h1, ?_⟩, z.nodup, fun l hl b hb => ?_, fun l nl b hb m => z.others l nl b hb (inE_put (e := .d x) rfl m).2⟩
    · rw [upd_ne (fun eb => z.heads i wi l hl (by rw [sli, eb]))]
      exact g1
    · have nl := no l hl
      rw [get_put_ne _ _ _ _ nl] at hl
      exact z.heads l hl b hb
theorem Ok.freezeO (k : Ok Ω A G σ env H) {i : Nat} {e : E1} (he : get env i = e) (w : isFz e = true) : ∃ G', Same G G' ∧ Ok Ω A G' σ (put env i (.d (frzD e))) H := by
  obtain ⟨a, vs, s, h, r, g, n⟩ := k.ownO he (isFz.own w)
  obtain ⟨sg, k'⟩ := k.freezeV he (isFz.own w) s h r.mut g n ((r.mono (sameNew g)).rep w upd_same)
  exact ⟨_, sg, k'⟩
end
end KD
set_option Elab.async false
set_option linter.all false
set_option maxRecDepth 100000
set_option maxHeartbeats 1000000
namespace KD
open PySem PySem.Spec PyProof.Rows L2
/-- a refusal: its class, its word, its fields -/
structure Exc where
  C : Addr
  word : Str
  fld : List (Str × D)
/-- it may go out from G, H -/
def RefD (Ω : Obs) (x : Exc) (G H : Hp) (E : XK) : Prop := ∀ (d : Addr) (fs : List (Str × V)) (G' H' : Hp), Same H H' → Same G G' → Same G' H' → New G G' H → H d = none → H' d = some (.xd fs) → fs.lookup ("word" : Str) = some (.str x.word) →
  (∀ p ∈ x.fld, ∃ v, fs.lookup p.1 = some v ∧ Rep Ω G' v p.2) → E (.ref x.C) (some d) H'
def Rf (Ω : Obs) (A : Am) (G H : Hp) (E : XK) (Ex : Exc → Prop) : Prop := ∀ x, Ex x → ∀ G' H', Tr A G H G' H' → RefD Ω x G' H' E
theorem Rf.tr {Ω : Obs} {A : Am} {G H G' H' : Hp} {E : XK} {Ex : Exc → Prop} (r : Rf Ω A G H E Ex) (t : Tr A G H G' H') : Rf Ω A G' H' E Ex := fun x hx G2 H2 t2 => r x hx G2 H2 (t.trans t2)
/-- it may go out from whatever comes of G -/
def RfS (Ω : Obs) (A : Am) (G : Hp) (E : XK) (Ex : Exc → Prop) : Prop := ∀ x, Ex x → ∀ G' H', Same G G' → Fr A G' H' → RefD Ω x G' H' E
theorem RfS.sub {Ω : Obs} {A : Am} {G G' : Hp} {E : XK} {Ex : Exc → Prop} (r : RfS Ω A G E Ex) (t : Same G G') : RfS Ω A G' E Ex := fun x hx G2 H2 t2 f => r x hx G2 H2 (t.trans t2) f
theorem RfS.e {Ω : Obs} {A : Am} {G H : Hp} {E : XK} {Ex : Exc → Prop} (r : RfS Ω A G E Ex) : Rf Ω A G H E Ex := fun x hx G2 H2 t => r x hx G2 H2 t.sub t.fr
/-- what is computed -/
structure M (α : Type) where
  wp : Env → (α → Prop) → (Exc → Prop) → Prop
  mono2 : ∀ {env Q Q' Ex Ex'}, (∀ a, Q a → Q' a) → (∀ x, Ex x → Ex' x) → wp env Q Ex → wp env Q' Ex'
theorem M.mono {α : Type} (m : M α) {env : Env} {Q Q' : α → Prop} {Ex : Exc → Prop} (h : ∀ a, Q a → Q' a) (q : m.wp env Q Ex) : m.wp env Q' Ex := m.mono2 h (fun _ z => z) q
namespace M
def ret {α : Type} (a : α) : M α := ⟨fun _ Q _ => Q a, fun h hx q => h _ q⟩
def bind {α β : Type} (m : M α) (f : α → M β) : M β := ⟨fun env Q Ex => m.wp env (fun a => (f a).wp env Q Ex) Ex, fun h hx q => m.mono2 (fun a q => (f a).mono2 h hx q) hx q⟩
def opt {α : Type} (o : Option α) : M α := ⟨fun _ Q _ => ∃ a, o = some a ∧ Q a, fun h _ ⟨a, e, q⟩ => ⟨a, e, h a q⟩⟩
def ask {α : Type} (p : Prop) (a : α) : M α := ⟨fun _ Q _ => p ∧ Q a, fun h _ ⟨e, q⟩ => ⟨e, h a q⟩⟩
def var (i : Nat) : M D := ⟨fun env Q _ => ∃ x, get env i = .d x ∧ Q x, fun h _ ⟨x, e, q⟩ => ⟨x, e, h x q⟩⟩
def ite {α : Type} (b : Bool) (x y : M α) : M α := ⟨fun env Q Ex => if b = true then x.wp env Q Ex else y.wp env Q Ex, fun h hx q => by
  split at q
  · rename_i e; rw [if_pos e]; exact x.mono2 h hx q
  · rename_i e; rw [if_neg e]; exact y.mono2 h hx q⟩
end M
section
variable (Ω : Obs) (A : Am) (E : XK)
def Den (t : TE) (m : M D) : Prop := ∀ G σ env H Q Ex, Ok Ω A G σ env H → Rf Ω A G H E Ex → m.wp env (fun d => ∀ G' v H', Tr A G H G' H' → Rep Ω G' v d → Q v H') Ex → t σ H Q
/-- it gives a new list, of one's own -/
def DenO (t : TE) (m : M (List D)) : Prop := ∀ G σ env H Q Ex, Ok Ω A G σ env H → Rf Ω A G H E Ex → m.wp env (fun ds => ∀ G' a vs H', Tr A G H G' H' → FreshO A G H a → H' a = some (.lst vs) → Reps Ω G' vs ds → G' a = none → A.nw a → Q (.ref a) H') Ex → t σ H Q
def DenA (t : TA) (n : Nat) (m : M (List D)) : Prop := ∀ G σ env H Q Ex, Ok Ω A G σ env H → Rf Ω A G H E Ex → m.wp env (fun ds => ∀ G' vs H', Tr A G H G' H' → Reps Ω G' vs ds → vs.length = n → Q vs H') Ex → t σ H Q
def DenT (t : TT) (m : M Bool) : Prop := ∀ G σ env H Q Ex, Ok Ω A G σ env H → Rf Ω A G H E Ex → m.wp env (fun b => ∀ G' H', Tr A G H G' H' → Q b H') Ex → t σ H Q
def DenP (t : TO) (m : M (Option Int)) : Prop := ∀ G σ env H Q Ex, Ok Ω A G σ env H → Rf Ω A G H E Ex → m.wp env (fun b => ∀ G' H', Tr A G H G' H' → Q b H') Ex → t σ H Q
/-- a walk over data -/
def WalkD (J : It) (G : Hp) (items : List D) : Prop := Walk J items.length (fun H => Same G H) (fun i H x H' => ∃ d, items[i]? = some d ∧ ((H' = H ∧ Rep Ω G x d) ∨ ∃ T vs ds, x = .ref T ∧ d = .tup ds ∧ H T = none ∧ H' = upd H T (.tup vs) ∧ Reps Ω G vs ds))
def DenI (t : TI) (m : M (List D)) : Prop := ∀ G σ env H R Ex, Ok Ω A G σ env H → Rf Ω A G H E Ex → m.wp env (fun ds => ∀ G' J H', Tr A G H G' H' → WalkD Ω J G' ds → R J H') Ex → t σ H R
end
/-- an operation on two values -/
def OpD (Ω : Obs) (r : R2) (g : D → D → M D) : Prop := ∀ (A : Am) G H x y dx dy (Q : VK) env Ex, Fr A G H → Rep Ω G x dx → Rep Ω G y dy → (g dx dy).wp env (fun d => ∀ G' v H', Tr A G H G' H' → Rep Ω G' v d → Q v H') Ex → r x y H Q
section
variable {Ω : Obs} {A : Am} {E : XK} {ta tb tc : TE} {ma mb mc : M D} {t : TA} {n : Nat} {m : M (List D)}
theorem dn_var {i : Nat} : Den Ω A E (tVar i) (.var i) := fun G σ env H Q Ex k _ ⟨x, e, q⟩ => by
  obtain ⟨v, hv, r⟩ := k.d e
  exact ⟨v, hv, q G v H (.refl k.fr) r⟩
theorem dn_int {i : Int} : Den Ω A E (tC (.int i)) (.ret (.int i)) := fun G σ env H Q Ex k _ q => q G _ H (.refl k.fr) (.int i)
theorem dn_bl {i : Bool} : Den Ω A E (tC (.bl i)) (.ret (.bl i)) := fun G σ env H Q Ex k _ q => q G _ H (.refl k.fr) (.bl i)
theorem dn_non : Den Ω A E (tC .non) (.ret .non) := fun G σ env H Q Ex k _ q => q G _ H (.refl k.fr) .non
def mOp (g : D → D → M D) (a b : M D) : M D := a.bind fun x => b.bind fun y => g x y
theorem dn_op {r : R2} {g : D → D → M D} (o : OpD Ω r g) (ha : Den Ω A E ta ma) (hb : Den Ω A E tb mb) : Den Ω A E (tOp r ta tb) (mOp g ma mb) := fun G σ env H Q Ex k f q =>
  ha G σ env H _ Ex k f (ma.mono (fun x q G1 v1 H1 t1 r1 => hb G1 σ env H1 _ Ex (k.tr t1) (f.tr t1) (mb.mono (fun y q G2 v2 H2 t2 r2 =>
    o A G2 H2 v1 v2 x y Q env Ex t2.fr (r1.mono t2.sub) r2 ((g x y).mono (fun d q G3 v3 H3 t3 r3 => q G3 v3 H3 (t1.trans (t2.trans t3)) r3) q)) q)) q)
def gI (f : Int → Int → D) : D → D → M D
  | .int i, .int j => .ret (f i j)
  | _, _ => .opt none
theorem op_i {f : Int → Int → Int} : OpD Ω (rI0 fun i j => .int (f i j)) (gI fun i j => .int (f i j)) := fun A G H x y dx dy Q env Ex fr rx ry q => by
  cases rx <;> cases ry <;> try (obtain ⟨_, z, _⟩ := q; cases z)
  exact ⟨_, _, rfl, rfl, q _ _ _ (.refl fr) (.int _)⟩
theorem op_b {f : Int → Int → Bool} : OpD Ω (rI0 fun i j => .bl (f i j)) (gI fun i j => .bl (f i j)) := fun A G H x y dx dy Q env Ex fr rx ry q => by
  cases rx <;> cases ry <;> try (obtain ⟨_, z, _⟩ := q; cases z)
  exact ⟨_, _, rfl, rfl, q _ _ _ (.refl fr) (.bl _)⟩
def gIC (C : Int → Int → Prop) (f : Int → Int → Int) : D → D → M D
  | .int i, .int j => .ask (C i j) (.int (f i j))
  | _, _ => .opt none
theorem op_ic {C : Int → Int → Prop} {f : Int → Int → Int} : OpD Ω (rI C fun i j => .int (f i j)) (gIC C f) := fun A G H x y dx dy Q env Ex fr rx ry q => by
  cases rx <;> cases ry <;> try (obtain ⟨_, z, _⟩ := q; cases z)
  exact ⟨_, _, rfl, rfl, q.1, q.2 _ _ _ (.refl fr) (.int _)⟩
/-- a value of no place -/
def scl : D → Option V
  | .int i => some (.int i)
  | .bl b => some (.bl b)
  | .str x => some (.str x)
  | .non => some .non
  | _ => none
theorem Rep.scl {G : Hp} {v : V} {x : D} {u : V} (r : Rep Ω G v x) (h : scl x = some u) : v = u := by
  cases r <;> cases h <;> rfl
def gEq (f : Bool → Bool) (x y : D) : M D := ⟨fun _ Q _ => ∃ u v, scl x = some u ∧ scl y = some v ∧ scal u v = true ∧ Q (.bl (f (decide (u = v)))), fun h _ ⟨u, v, a, b, c, q⟩ => ⟨u, v, a, b, c, h _ q⟩⟩
theorem op_eqS : OpD Ω rEq (gEq id) := fun A G H x y dx dy Q env Ex fr rx ry q => by
  obtain ⟨u, v, a, b, c, q⟩ := q
  rw [rx.scl a, ry.scl b]
  exact ⟨c, q _ _ _ (.refl fr) (.bl _)⟩
theorem op_neS : OpD Ω rNe (gEq not) := fun A G H x y dx dy Q env Ex fr rx ry q => by
  obtain ⟨u, v, a, b, c, q⟩ := q
  rw [rx.scl a, ry.scl b]
  exact ⟨c, q _ _ _ (.refl fr) (.bl _)⟩
def mNeg (a : M D) : M D := a.bind fun x => match x with | .int i => .ret (.int (-i)) | _ => .opt none
mutual
def py : D → PyData
  | .int i => .int i
  | .bl b => .bool b
  | .str x => .str x
  | .non => .none
  | .tup xs => .tuple (pys xs)
  | .ftup xs => .tuple (pys xs)
  | .lst xs => .list (pys xs)
  | .obj _ _ => .none
  | .dk _ => .none
  | .dt _ => .none
  | .ftb _ => .none
  | .fkb _ => .none
  | .ndb _ => .none
def pys : List D → List PyData
  | [] => []
  | x :: xs => py x :: pys xs
end
mutual
/-- no object within -/
def flat : D → Bool
  | .tup xs => flats xs
  | .ftup xs => flats xs
  | .lst xs => flats xs
  | .obj _ _ => false
  | .dk _ => false
  | .dt _ => false
  | .ftb _ => false
  | .fkb _ => false
  | .ndb _ => false
  | _ => true
def flats : List D → Bool
  | [] => true
  | x :: xs => flat x && flats xs
end
mutual
theorem Rep.dp {K : PySem.W.Frag} {G H : Hp} (s : Same G H) : ∀ {v : V} {x : D}, flat x = true → Rep Ω G v x → Dp K H v (py x)
  | _, _, _, .int i => .int i
  | _, _, _, .bl b => .bl b
  | _, _, _, .str z => .str z
  | _, _, _, .non => .non
  | _, _, f, .tup h r => .tup (SqT.of (s _ _ h)) (Reps.dp s f r)
  | _, _, f, .ftup h r => .tup (h.mono s).sq (Reps.dp s f r)
  | _, _, f, .lst h r => .lst (SqL.of (s _ _ h)) (Reps.dp s f r)
  | _, _, f, .obj _ => by cases f
  | _, _, f, .dk _ _ => by cases f
  | _, _, f, .dt _ _ => by cases f
  | _, _, f, .ftb _ _ => by cases f
  | _, _, f, .fkb _ _ => by cases f
  | _, _, f, .ndb _ _ => by cases f
theorem Reps.dp {K : PySem.W.Frag} {G H : Hp} (s : Same G H) : ∀ {vs : List V} {xs : List D}, flats xs = true → Reps Ω G vs xs → DpAll K H vs (pys xs)
  | _, _, _, .nil => .nil
  | _ :: _, x :: xs, f, .cons h r => by
    have f' : (flat x && flats xs) = true := f
    have z := (Bool.and_eq_true _ _).mp f'
    exact .cons (Rep.dp s z.1 h) (Reps.dp s z.2 r)
end
def gEqD (f : Bool → Bool) (x y : D) : M D := ⟨fun _ Q _ => flat x = true ∧ flat y = true ∧ SeqAt.shaped (py x) = true ∧ SeqAt.shaped (py y) = true ∧ Q (.bl (f (PyData.eqv (py x) (py y)))), fun h _ ⟨a, b, c, d, q⟩ => ⟨a, b, c, d, h _ q⟩⟩
theorem op_eqd {K : PySem.W.Frag} : OpD Ω (rEqD K) (gEqD id) := fun A G H x y dx dy Q env Ex fr rx ry q => by
  obtain ⟨a, b, c, d, q⟩ := q
  exact ⟨_, _, rx.dp fr.sub a, ry.dp fr.sub b, c, d, q _ _ _ (.refl fr) (.bl _)⟩
theorem op_ned {K : PySem.W.Frag} : OpD Ω (rNeD K) (gEqD not) := fun A G H x y dx dy Q env Ex fr rx ry q => by
  obtain ⟨a, b, c, d, q⟩ := q
  exact ⟨_, _, rx.dp fr.sub a, ry.dp fr.sub b, c, d, q _ _ _ (.refl fr) (.bl _)⟩
def asSeq : D → Option (List D)
  | .tup xs => some xs
  | .ftup xs => some xs
  | .lst xs => some xs
  | _ => none
def asTup : D → Option (List D)
  | .tup xs => some xs
  | .ftup xs => some xs
  | _ => none
def asLst : D → Option (List D)
  | .lst xs => some xs
  | _ => none
theorem Rep.tupv {G : Hp} {K : PySem.W.Frag} {v : V} {x : D} {xs : List D} (r : Rep Ω G v x) (h : asTup x = some xs) : ∃ a vs, v = .ref a ∧ SqT K G a vs ∧ Reps Ω G vs xs := by
  cases r <;> cases h
  · exact ⟨_, _, rfl, SqT.of ‹_›, ‹_›⟩
  · exact ⟨_, _, rfl, FzT.sq ‹_›, ‹_›⟩
theorem Rep.lstv {G : Hp} {v : V} {x : D} {xs : List D} (r : Rep Ω G v x) (h : asLst x = some xs) : ∃ a vs, v = .ref a ∧ G a = some (.lst vs) ∧ Reps Ω G vs xs := by
  cases r <;> cases h
  exact ⟨_, _, rfl, ‹_›, ‹_›⟩
theorem Rep.seqv {G : Hp} {K : PySem.W.Frag} {v : V} {x : D} {xs : List D} (r : Rep Ω G v x) (h : asSeq x = some xs) : ∃ a vs, v = .ref a ∧ (SqL K G a vs ∨ SqT K G a vs) ∧ Reps Ω G vs xs := by
  cases r <;> cases h
  · exact ⟨_, _, rfl, .inr (SqT.of ‹_›), ‹_›⟩
  · exact ⟨_, _, rfl, .inr (FzT.sq ‹_›), ‹_›⟩
  · exact ⟨_, _, rfl, .inl (SqL.of ‹_›), ‹_›⟩
theorem sqT_same {K : PySem.W.Frag} {H H' : Hp} {a : Addr} {xs : List V} (s : Same H H') (h : SqT K H a xs) : SqT K H' a xs := by
  rcases h with (h | ⟨o, h⟩) | h
  · exact .inl (.inl (s _ _ h))
  · exact .inl (.inr ⟨o, s _ _ h⟩)
  · exact .inr h
theorem seq_same {K : PySem.W.Frag} {H H' : Hp} {a : Addr} {xs : List V} (s : Same H H') (h : SqL K H a xs ∨ SqT K H a xs) : SqL K H' a xs ∨ SqT K H' a xs := h.elim (fun z => .inl (s.seq z)) (fun z => .inr (sqT_same s z))
theorem Reps.atI {G : Hp} {vs : List V} {xs : List D} {i : Int} {x : D} (r : Reps Ω G vs xs) (h : L2.atI xs i = some x) : ∃ v, L2.atI vs i = some v ∧ Rep Ω G v x := by
  unfold L2.atI at h ⊢
  rw [r.length]
  cases q : ixN xs.length i with
  | none => rw [q] at h; cases h
  | some j =>
    rw [q] at h
    exact r.at' (i := j) h
/-- x[i] -/
def gIx (f : D → Option (List D)) (x y : D) : M D := ⟨fun _ Q _ => ∃ xs i d, f x = some xs ∧ y = .int i ∧ atI xs i = some d ∧ Q d, fun h _ ⟨xs, i, d, a, b, c, q⟩ => ⟨xs, i, d, a, b, c, h _ q⟩⟩
theorem op_ixT {K : PySem.W.Frag} : OpD Ω (rIxT K) (gIx asTup) := fun A G H x y dx dy Q env Ex fr rx ry q => by
  obtain ⟨xs, i, d, a, rfl, c, q⟩ := q
  obtain ⟨p, vs, rfl, h, r⟩ := rx.tupv (K := K) a
  obtain ⟨v, hv, rv⟩ := r.atI c
  cases ry
  exact ⟨p, vs, i, v, rfl, rfl, sqT_same fr.sub h, hv, q _ _ _ (.refl fr) rv⟩
theorem op_ixL {K : PySem.W.Frag} : OpD Ω (rIxL K) (gIx asLst) := fun A G H x y dx dy Q env Ex fr rx ry q => by
  obtain ⟨xs, i, d, a, rfl, c, q⟩ := q
  obtain ⟨p, vs, rfl, h, r⟩ := rx.lstv a
  obtain ⟨v, hv, rv⟩ := r.atI c
  cases ry
  exact ⟨p, vs, i, v, rfl, rfl, SqL.of (fr.sub _ _ h), hv, q _ _ _ (.refl fr) rv⟩
/-- x in xs, numbers, texts: by flat values -/
def scls : List D → Option (List V)
  | [] => some []
  | x :: xs => match scl x, scls xs with | some v, some vs => some (v :: vs) | _, _ => none
theorem Reps.scls {G : Hp} : ∀ {vs : List V} {xs : List D} {us : List V}, Reps Ω G vs xs → scls xs = some us → vs = us
  | _, _, _, .nil, h => by cases h; rfl
  | _ :: _, x :: xs, _, .cons h r, e => by
    unfold KD.scls at e
    cases q1 : scl x with
    | none => rw [q1] at e; cases e
    | some u =>
      cases q2 : KD.scls xs with
      | none => rw [q1, q2] at e; cases e
      | some us =>
        rw [q1, q2] at e
        cases e
        rw [h.scl q1, Reps.scls r q2]
def gIn (neg : Bool) (x y : D) : M D := ⟨fun _ Q _ => ∃ xs u us, asSeq y = some xs ∧ scl x = some u ∧ scls xs = some us ∧ flatV u = true ∧ us.all flatV = true ∧ Q (.bl (if neg then !inV u us else inV u us)), fun h _ ⟨a, b, c, d, e, f, g, k, q⟩ => ⟨a, b, c, d, e, f, g, k, h _ q⟩⟩
theorem op_in {K : PySem.W.Frag} {neg : Bool} : OpD Ω (rIn K neg) (gIn neg) := fun A G H x y dx dy Q env Ex fr rx ry q => by
  obtain ⟨xs, u, us, a, b, c, d, e, q⟩ := q
  obtain ⟨p, vs, rfl, h, r⟩ := ry.seqv (K := K) a
  rw [rx.scl b]
  have ev := r.scls c
  subst ev
  exact ⟨p, vs, rfl, seq_same fr.sub h, d, e, q _ _ _ (.refl fr) (.bl _)⟩
end
end KD
set_option Elab.async false
set_option linter.all false
set_option maxRecDepth 100000
set_option maxHeartbeats 1000000
namespace KD
open PySem PySem.Spec PyProof.Rows L2
def cutD (xs : List D) (lo hi : Option Int) : List D := (xs.drop (HT.sIx xs.length 0 lo)).take (HT.sIx xs.length xs.length hi - HT.sIx xs.length 0 lo)
theorem Reps.cut {Ω : Obs} {G : Hp} {vs : List V} {xs : List D} (r : Reps Ω G vs xs) (lo hi : Option Int) : Reps Ω G (cutV vs lo hi) (cutD xs lo hi) := by
  unfold cutV cutD
  rw [r.length]
  exact Reps.take _ (Reps.drop _ r)
/-- a call with its arguments -/
def CallD (Ω : Obs) (E : XK) (r : List V → Hp → VK → Prop) (g : List D → M D) : Prop := ∀ (A : Am) G H vs ds (Q : VK) env Ex, Fr A G H → Rf Ω A G H E Ex → Reps Ω G vs ds → (g ds).wp env (fun d => ∀ G' v H', Tr A G H G' H' → Rep Ω G' v d → Q v H') Ex → r vs H Q
/-- it gives a new list -/
def CallO (Ω : Obs) (E : XK) (r : List V → Hp → VK → Prop) (g : List D → M (List D)) : Prop := ∀ (A : Am) G H vs ds (Q : VK) env Ex, Fr A G H → Rf Ω A G H E Ex → Reps Ω G vs ds → (g ds).wp env (fun xs => ∀ G' a us H', Tr A G H G' H' → FreshO A G H a → H' a = some (.lst us) → Reps Ω G' us xs → G' a = none → A.nw a → Q (.ref a) H') Ex → r vs H Q
section
variable {Ω : Obs} {A : Am} {E : XK} {ta tb tc : TE} {ma mb mc : M D} {t : TA} {n : Nat} {m : M (List D)} {K : PySem.W.Frag}
def mLst (m : M (List D)) : M D := m.bind fun xs => .ret (.lst xs)
theorem trFreeze {G H G' H' : Hp} {a : Addr} {vs : List V} (t : Tr A G H G' H') (hn : FreshO A G H a) (h : H' a = some (.lst vs)) (g : G' a = none) (nw : A.nw a) : Tr A G H (upd G' a (.lst vs)) H' := by
  refine ⟨⟨t.fr.inv, fun b o q => ?_, fun b o q => ?_⟩, t.sub.trans (sameNew g), fun b us mo hb nb gb => ?_⟩
  · by_cases e : b = a
    · subst e
      rw [upd_same] at q
      rw [← q]
      exact h
    · rw [upd_ne e] at q
      exact t.fr.sub _ _ q
  · by_cases e : b = a
    · subst e
      rw [upd_same] at q
      cases q
      exact A.gl nw trivial
    · rw [upd_ne e] at q
      exact t.fr.gd _ _ q
  · obtain ⟨h1, g1⟩ := t.own b us mo hb nb gb
    exact ⟨h1, by rw [upd_ne (hn b us mo hb nb gb)]; exact g1⟩
theorem dn_own {te : TE} (h : DenO Ω A E te m) : Den Ω A E te (mLst m) := fun G σ env H Q Ex k f q =>
  h G σ env H Q Ex k f (m.mono (fun xs q G' a vs H' t hn ha r g nw => q _ _ _ (trFreeze t hn ha g nw) (.lst upd_same (r.mono (sameNew g)))) q)
theorem da_nil : DenA Ω A E tNil 0 (.ret []) := fun G σ env H Q Ex k f q => q G [] H (.refl k.fr) .nil rfl
def mCons (a : M D) (r : M (List D)) : M (List D) := a.bind fun x => r.bind fun xs => .ret (x :: xs)
theorem da_cons (ha : Den Ω A E ta ma) (hr : DenA Ω A E t n m) : DenA Ω A E (tCons ta t) (n + 1) (mCons ma m) := fun G σ env H Q Ex k f q =>
  ha G σ env H _ Ex k f (ma.mono (fun x q G1 v1 H1 t1 r1 => hr G1 σ env H1 _ Ex (k.tr t1) (f.tr t1) (m.mono (fun xs q G2 vs H2 t2 r2 e =>
    q G2 _ H2 (t1.trans t2) (.cons (r1.mono t2.sub) r2) (by rw [List.length_cons, e])) q)) q)
def mTup (m : M (List D)) : M D := m.bind fun xs => .ret (.tup xs)
theorem dn_tup (h : DenA Ω A E t n m) (hn : n ≤ 1000 := by decide) : Den Ω A E (tTup t) (mTup m) := fun G σ env H Q Ex k f q =>
  h G σ env H _ Ex k f (m.mono (fun xs q G1 vs H1 t1 r1 e => ⟨by rw [sizeLine_eq]; omega, fun p hp => by
    have t2 := Tr.alloc t1.fr (o := .tup vs) hp (fun _ => by intro z; cases z)
    exact q _ _ _ (t1.trans t2) (.tup upd_same (r1.mono t2.sub))⟩) q)
theorem do_lst (h : DenA Ω A E t n m) (hn : n ≤ 1000 := by decide) : DenO Ω A E (tLst t) m := fun G σ env H Q Ex k f q =>
  h G σ env H _ Ex k f (m.mono (fun xs q G1 vs H1 t1 r1 e => ⟨by rw [sizeLine_eq]; omega, fun p hp => by
    have t2 := Tr.allocOwn t1.fr (o := .lst vs) hp
    exact q _ _ _ _ (t1.trans t2) (.of t1 hp) upd_same r1 (t1.fr.sub.free hp) (A.fr t1.fr.inv hp)⟩) q)
theorem dn_callR {r : List V → Hp → VK → Prop} {g : List D → M D} (c : CallD Ω E r g) (h : DenA Ω A E t n m) : Den Ω A E (fun σ H Q => t σ H fun vs H1 => r vs H1 Q) (m.bind g) := fun G σ env H Q Ex k f q =>
  h G σ env H _ Ex k f (m.mono (fun xs q G1 vs H1 t1 r1 _ => c A G1 H1 vs xs Q env Ex t1.fr (f.tr t1) r1 ((g xs).mono (fun d q G2 v2 H2 t2 r2 => q G2 v2 H2 (t1.trans t2) r2) q)) q)
theorem do_callR {r : List V → Hp → VK → Prop} {g : List D → M (List D)} (c : CallO Ω E r g) (h : DenA Ω A E t n m) : DenO Ω A E (fun σ H Q => t σ H fun vs H1 => r vs H1 Q) (m.bind g) := fun G σ env H Q Ex k f q =>
  h G σ env H _ Ex k f (m.mono (fun xs q G1 vs H1 t1 r1 _ => c A G1 H1 vs xs Q env Ex t1.fr (f.tr t1) r1 ((g xs).mono (fun d q G2 a us H2 t2 fr ha r2 g2 nw => q G2 a us H2 (t1.trans t2) (fr.tr t1) ha r2 g2 nw) q)) q)
/-- len(..) -/
def gLen : List D → M D := fun ds => ⟨fun _ Q _ => ∃ x xs, ds = [x] ∧ asSeq x = some xs ∧ Q (.int xs.length), fun h _ ⟨x, xs, a, b, q⟩ => ⟨x, xs, a, b, h _ q⟩⟩
theorem c_len : CallD Ω E (fun xs H Q => ∃ p ys, xs = [.ref p] ∧ (SqL K H p ys ∨ SqT K H p ys) ∧ Q (.int ys.length) H) gLen := fun A G H vs ds Q env Ex fr f r q => by
  obtain ⟨x, xs, rfl, b, q⟩ := q
  obtain ⟨v, rfl, rv⟩ := r.one
  obtain ⟨p, us, rfl, h, ru⟩ := rv.seqv (K := K) b
  refine ⟨p, us, rfl, seq_same fr.sub h, ?_⟩
  rw [ru.length]
  exact q _ _ _ (.refl fr) (.int _)
/-- list(..) of a row of things -/
def gList : List D → M (List D) := fun ds => ⟨fun _ Q _ => ∃ x xs, ds = [x] ∧ asSeq x = some xs ∧ Q xs, fun h _ ⟨x, xs, a, b, q⟩ => ⟨x, xs, a, b, h _ q⟩⟩
theorem c_list : CallO Ω E (fun xs H Q => ∃ p ys, xs = [.ref p] ∧ (SqL K H p ys ∨ SqT K H p ys) ∧ ∀ l, H l = none → Q (.ref l) (upd H l (.lst ys))) gList := fun A G H vs ds Q env Ex fr f r q => by
  obtain ⟨x, xs, rfl, b, q⟩ := q
  obtain ⟨v, rfl, rv⟩ := r.one
  obtain ⟨p, us, rfl, h, ru⟩ := rv.seqv (K := K) b
  exact ⟨p, us, rfl, seq_same fr.sub h, fun l hl => q _ _ _ _ (Tr.allocOwn fr hl) (.of (.refl fr) hl) upd_same ru (fr.sub.free hl) (A.fr fr.inv hl)⟩
/-- tuple(..) of a list -/
def gTupF : List D → M D := fun ds => ⟨fun _ Q _ => ∃ xs, ds = [.lst xs] ∧ Q (.ftup xs), fun h _ ⟨xs, a, q⟩ => ⟨xs, a, h _ q⟩⟩
theorem c_tupF : CallD Ω E (KW.rTupleF K) gTupF := fun A G H vs ds Q env Ex fr f r q => by
  obtain ⟨xs, rfl, q⟩ := q
  obtain ⟨v, rfl, rv⟩ := r.one
  obtain ⟨p, us, rfl, h, ru⟩ := rv.lstv rfl
  refine ⟨p, us, rfl, SqL.of (fr.sub _ _ h), fun l o hl ho => ?_⟩
  have t2 := Tr.alloc fr (o := .frz o (.tup us)) hl (fun _ => by intro z; cases z)
  exact q _ _ _ t2 (.ftup ⟨o, upd_same, ho⟩ (ru.mono t2.sub))
def OpO (Ω : Obs) (r : R2) (g : D → D → M (List D)) : Prop := ∀ (A : Am) G H x y dx dy (Q : VK) env Ex, Fr A G H → Rep Ω G x dx → Rep Ω G y dy → (g dx dy).wp env (fun xs => ∀ G' a us H', Tr A G H G' H' → FreshO A G H a → H' a = some (.lst us) → Reps Ω G' us xs → G' a = none → A.nw a → Q (.ref a) H') Ex → r x y H Q
def mOpO (g : D → D → M (List D)) (a b : M D) : M (List D) := a.bind fun x => b.bind fun y => g x y
theorem do_op {r : R2} {g : D → D → M (List D)} (o : OpO Ω r g) (ha : Den Ω A E ta ma) (hb : Den Ω A E tb mb) : DenO Ω A E (tOp r ta tb) (mOpO g ma mb) := fun G σ env H Q Ex k f q =>
  ha G σ env H _ Ex k f (ma.mono (fun x q G1 v1 H1 t1 r1 => hb G1 σ env H1 _ Ex (k.tr t1) (f.tr t1) (mb.mono (fun y q G2 v2 H2 t2 r2 =>
    o A G2 H2 v1 v2 x y Q env Ex t2.fr (r1.mono t2.sub) r2 ((g x y).mono (fun d q G3 a us H3 t3 fr ha r3 g3 nw => q G3 a us H3 (t1.trans (t2.trans t3)) (fr.tr (t1.trans t2)) ha r3 g3 nw) q)) q)) q)
def gCat (x y : D) : M (List D) := ⟨fun _ Q _ => ∃ xs ys, x = .lst xs ∧ y = .lst ys ∧ xs.length + ys.length ≤ 1000000 ∧ Q (xs ++ ys), fun h _ ⟨xs, ys, a, b, c, q⟩ => ⟨xs, ys, a, b, c, h _ q⟩⟩
theorem op_catO : OpO Ω rCat gCat := fun A G H x y dx dy Q env Ex fr rx ry q => by
  obtain ⟨xs, ys, rfl, rfl, c, q⟩ := q
  obtain ⟨a, us, rfl, h, ru⟩ := rx.lstv rfl
  obtain ⟨b, ws, rfl, h2, rw2⟩ := ry.lstv rfl
  exact ⟨a, b, us, ws, rfl, rfl, fr.sub _ _ h, fr.sub _ _ h2, by rw [sizeLine_eq, ru.length, rw2.length]; omega, fun p hp => q _ _ _ _ (Tr.allocOwn fr hp) (.of (.refl fr) hp) upd_same (Reps.app rw2 ru) (fr.sub.free hp) (A.fr fr.inv hp)⟩
def gRep (x y : D) : M (List D) := ⟨fun _ Q _ => ∃ xs, ∃ k : Nat, x = .lst xs ∧ y = .int k ∧ k ≤ 1000 ∧ xs.length ≤ 1000 ∧ Q (List.replicate k xs).flatten, fun h _ ⟨xs, ys, a, b, c, d, q⟩ => ⟨xs, ys, a, b, c, d, h _ q⟩⟩
theorem op_repO : OpO Ω rRep gRep := fun A G H x y dx dy Q env Ex fr rx ry q => by
  obtain ⟨xs, k, rfl, rfl, c, d, q⟩ := q
  obtain ⟨a, us, rfl, h, ru⟩ := rx.lstv rfl
  cases ry
  refine ⟨a, k, us, rfl, rfl, fr.sub _ _ h, by omega, by omega, ?_, fun p hp => ?_⟩
  · rw [sizeLine_eq, ru.length, Int.toNat_natCast]
    exact Nat.le_trans (Nat.mul_le_mul d c) (by decide)
  · rw [Int.toNat_natCast]
    exact q _ _ _ _ (Tr.allocOwn fr hp) (.of (.refl fr) hp) upd_same (Reps.flat ru k) (fr.sub.free hp) (A.fr fr.inv hp)
theorem dp_none : DenP Ω A E tNoPart (.ret none) := fun G σ env H Q Ex k f q => q G H (.refl k.fr)
def mPart (a : M D) : M (Option Int) := a.bind fun x => ⟨fun _ Q _ => ∃ i, x = .int i ∧ Q (some i), fun h _ ⟨i, a, q⟩ => ⟨i, a, h _ q⟩⟩
theorem dp_some (h : Den Ω A E ta ma) : DenP Ω A E (tPart ta) (mPart ma) := fun G σ env H Q Ex k f q =>
  h G σ env H _ Ex k f (ma.mono (fun x q G1 v1 H1 t1 r1 => by
    obtain ⟨i, rfl, q⟩ := q
    cases r1
    exact ⟨i, rfl, q G1 H1 t1⟩) q)
def mSl (a : M D) (lo hi : M (Option Int)) (g : D → Option Int → Option Int → M (List D)) : M (List D) := a.bind fun x => lo.bind fun l => hi.bind fun u => g x l u
def gSlL (x : D) (lo hi : Option Int) : M (List D) := ⟨fun _ Q _ => ∃ xs, x = .lst xs ∧ Q (cutD xs lo hi), fun h _ ⟨xs, a, q⟩ => ⟨xs, a, h _ q⟩⟩
theorem do_slL {tl th : TO} {ml mh : M (Option Int)} (h : Den Ω A E ta ma) (hl : DenP Ω A E tl ml) (hh : DenP Ω A E th mh) : DenO Ω A E (tSl (rSlL K) ta tl th) (mSl ma ml mh gSlL) := fun G σ env H Q Ex k f q =>
  h G σ env H _ Ex k f (ma.mono (fun x q G1 v1 H1 t1 r1 => hl G1 σ env H1 _ Ex (k.tr t1) (f.tr t1) (ml.mono (fun l q G2 H2 t2 => hh G2 σ env H2 _ Ex (k.tr (t1.trans t2)) (f.tr (t1.trans t2)) (mh.mono (fun u q3 G3 H3 t3 => by
    obtain ⟨xs, rfl, q4⟩ := q3
    obtain ⟨a, us, rfl, h, ru⟩ := r1.lstv rfl
    have t13 := t1.trans (t2.trans t3)
    have r3 := (ru.mono (t2.sub.trans t3.sub)).cut l u
    exact ⟨a, us, rfl, SqL.of (t3.fr.sub _ _ (t3.sub _ _ (t2.sub _ _ h))), fun p hp => q4 _ _ _ _ (t13.trans (Tr.allocOwn t3.fr hp)) (.of t13 hp) upd_same r3 (t3.fr.sub.free hp) (A.fr t3.fr.inv hp)⟩) q)) q)) q)
/-- list(range(n)) -/
def mLstRg (a : M D) : M (List D) := a.bind fun x => ⟨fun _ Q _ => ∃ n : Nat, x = .int n ∧ n ≤ 100000 ∧ Q ((List.range n).map fun i => .int ((i : Nat) : Int)), fun h _ ⟨i, a, b, q⟩ => ⟨i, a, b, h _ q⟩⟩
theorem Reps.ints {G : Hp} (f : Nat → Int) : ∀ l : List Nat, Reps Ω G (l.map fun i => V.int (f i)) (l.map fun i => D.int (f i))
  | [] => .nil
  | _ :: l => .cons (.int _) (Reps.ints f l)
theorem do_lstRg (h : Den Ω A E ta ma) : DenO Ω A E (tLstRg (tRg1 ta)) (mLstRg ma) := fun G σ env H Q Ex k f q =>
  h G σ env H _ Ex k f (ma.mono (fun x q G1 v1 H1 t1 r1 => by
    obtain ⟨n, rfl, le, q⟩ := q
    cases r1
    refine ⟨n, rfl, ⟨by decide, by decide, by omega, by omega, by omega⟩, fun p hp => ?_⟩
    refine q _ _ _ _ (t1.trans (Tr.allocOwn t1.fr hp)) (.of t1 hp) upd_same ?_ (t1.fr.sub.free hp) (A.fr t1.fr.inv hp)
    unfold rgV
    rw [show ((n : Int) - 0).toNat = n by omega]
    have z := Reps.ints (Ω := Ω) (G := G1) (fun i => 0 + (i : Int)) (List.range n)
    rw [show (fun i : Nat => D.int (0 + (i : Int))) = fun i : Nat => D.int (i : Int) from funext fun i => by rw [Int.zero_add]] at z
    exact z) q)
theorem dn_neg (h : Den Ω A E ta ma) : Den Ω A E (tUn (rU fun i => .int (-i)) ta) (mNeg ma) := fun G σ env H Q Ex k f q =>
  h G σ env H _ Ex k f (ma.mono (fun x q G1 v1 H1 t1 r1 => by
    cases r1 <;> try (obtain ⟨_, z, _⟩ := q; cases z)
    exact ⟨_, rfl, q _ _ _ t1 (.int _)⟩) q)
def mTest (a : M D) : M Bool := a.bind fun x => ⟨fun _ Q _ => ∃ b, x = .bl b ∧ Q b, fun h _ ⟨i, a, q⟩ => ⟨i, a, h _ q⟩⟩
theorem dt_test (h : Den Ω A E ta ma) : DenT Ω A E (tTest ta) (mTest ma) := fun G σ env H Q Ex k f q =>
  h G σ env H _ Ex k f (ma.mono (fun x q G1 v1 H1 t1 r1 => by
    obtain ⟨b, rfl, q⟩ := q
    cases r1
    exact ⟨b, rfl, q G1 H1 t1⟩) q)
theorem dt_val (h : Den Ω A E ta ma) : DenT Ω A E (tB ta) (mTest ma) := fun G σ env H Q Ex k f q =>
  h G σ env H _ Ex k f (ma.mono (fun x q G1 v1 H1 t1 r1 => by
    obtain ⟨b, rfl, q⟩ := q
    cases r1
    exact ⟨b, rfl, q G1 H1 t1⟩) q)
def mNot (a : M Bool) : M Bool := a.bind fun b => .ret (!b)
theorem dt_not {c : TT} {mb : M Bool} (h : DenT Ω A E c mb) : DenT Ω A E (tNot c) (mNot mb) := fun G σ env H Q Ex k f q =>
  h G σ env H _ Ex k f (mb.mono (fun b q G1 H1 t1 => q G1 H1 t1) q)
def mOr (a b : M Bool) : M Bool := a.bind fun x => .ite x (.ret true) b
theorem dt_or {c d : TT} {m1 m2 : M Bool} (h : DenT Ω A E c m1) (h2 : DenT Ω A E d m2) : DenT Ω A E (tOr c d) (mOr m1 m2) := fun G σ env H Q Ex k f q =>
  h G σ env H _ Ex k f (m1.mono (fun b q G1 H1 t1 => by
    cases b with
    | false => exact h2 G1 σ env H1 _ Ex (k.tr t1) (f.tr t1) (m2.mono (fun b q G2 H2 t2 => q G2 H2 (t1.trans t2)) q)
    | true => exact q G1 H1 t1) q)
def mIf (c : M Bool) (a b : M D) : M D := c.bind fun x => .ite x a b
theorem dn_if {c : TT} {m1 : M Bool} (h : DenT Ω A E c m1) (ha : Den Ω A E ta ma) (hb : Den Ω A E tb mb) : Den Ω A E (tIf c ta tb) (mIf m1 ma mb) := fun G σ env H Q Ex k f q =>
  h G σ env H _ Ex k f (m1.mono (fun b q G1 H1 t1 => by
    cases b with
    | true => exact ha G1 σ env H1 _ Ex (k.tr t1) (f.tr t1) (ma.mono (fun b q G2 v2 H2 t2 r2 => q G2 v2 H2 (t1.trans t2) r2) q)
    | false => exact hb G1 σ env H1 _ Ex (k.tr t1) (f.tr t1) (mb.mono (fun b q G2 v2 H2 t2 r2 => q G2 v2 H2 (t1.trans t2) r2) q)) q)
end
end KD
set_option Elab.async false
set_option linter.all false
set_option maxRecDepth 100000
set_option maxHeartbeats 1000000
namespace KD
open PySem PySem.Spec PyProof.Rows L2
section
variable {Ω : Obs} {A : Am} {E : XK} {ta tb tc : TE} {ma mb mc : M D} {t : TA} {n : Nat} {m : M (List D)} {K : PySem.W.Frag}
def isSeq (f : D → Option (List D)) (x : D) : M (List D) := ⟨fun _ Q _ => ∃ xs, f x = some xs ∧ Q xs, fun h _ ⟨i, a, q⟩ => ⟨i, a, h _ q⟩⟩
def mIt (f : D → Option (List D)) (a : M D) : M (List D) := a.bind fun x => isSeq f x
theorem yat {G : Hp} {vs : List V} {xs : List D} (r : Reps Ω G vs xs) {i : Nat} {H H' : Hp} {x : V} (y : YAt vs i H x H') : ∃ d, xs[i]? = some d ∧ ((H' = H ∧ Rep Ω G x d) ∨ ∃ T us ds, x = .ref T ∧ d = .tup ds ∧ H T = none ∧ H' = upd H T (.tup us) ∧ Reps Ω G us ds) := by
  obtain ⟨e, hx⟩ := y
  obtain ⟨d, hd, rd⟩ := r.at hx
  exact ⟨d, hd, .inl ⟨e, rd⟩⟩
theorem di_list (h : Den Ω A E ta ma) : DenI Ω A E (iList K ta) (mIt asLst ma) := fun G σ env H R Ex k f q =>
  h G σ env H _ Ex k f (ma.mono (fun x q G1 v1 H1 t1 r1 => by
    obtain ⟨xs, hx, q⟩ := q
    obtain ⟨a, us, rfl, ha, ru⟩ := r1.lstv hx
    refine ⟨a, rfl, ⟨us, SqL.of (t1.fr.sub _ _ ha)⟩, q G1 _ H1 t1 ?_⟩
    unfold WalkD
    rw [← ru.length]
    exact (walk_list (K := K) (a := a) (xs := us)).mono (fun H s => SqL.of (s _ _ ha)) (fun i H x H' _ _ y => yat ru y)) q)
theorem di_tup (h : Den Ω A E ta ma) : DenI Ω A E (iTup K ta) (mIt asTup ma) := fun G σ env H R Ex k f q =>
  h G σ env H _ Ex k f (ma.mono (fun x q G1 v1 H1 t1 r1 => by
    obtain ⟨xs, hx, q⟩ := q
    obtain ⟨a, us, rfl, ha, ru⟩ := r1.tupv (K := K) hx
    refine ⟨a, rfl, ⟨us, sqT_same t1.fr.sub ha⟩, q G1 _ H1 t1 ?_⟩
    unfold WalkD
    rw [← ru.length]
    exact (walk_tup (K := K) (a := a) (xs := us)).mono (fun H s => sqT_same s ha) (fun i H x H' _ _ y => yat ru y)) q)
def rgD (lo : Int) (n : Nat) : List D := (List.range n).map fun i => .int (lo + ((i : Nat) : Int))
def isRg1 (ds : List D) : M (List D) := ⟨fun _ Q _ => ∃ j : Int, ds = [.int j] ∧ (-1000000 ≤ j ∧ j ≤ 1000000) ∧ Q ((List.range j.toNat).map fun i => .int ((i : Nat) : Int)), fun h _ ⟨i, a, b, q⟩ => ⟨i, a, b, h _ q⟩⟩
theorem walk_rg {G : Hp} {lo : Int} {n : Nat} {xs : List D} (e : xs = rgD lo n) : WalkD Ω (Itr lo n) G xs := by
  subst e
  unfold WalkD
  have el : (rgD lo n).length = n := by unfold rgD; rw [List.length_map, List.length_range]
  rw [el]
  refine (walk_range (lo := lo) (n := n)).mono (fun _ _ => trivial) (fun i H x H' hi _ y => ?_)
  obtain ⟨e1, rfl⟩ := y
  refine ⟨.int (lo + i), ?_, .inl ⟨e1, .int _⟩⟩
  unfold rgD
  rw [List.getElem?_map, List.getElem?_range hi]
  rfl
theorem rgD0 (n : Nat) : (List.range n).map (fun i => D.int ((i : Nat) : Int)) = rgD 0 n := by
  unfold rgD
  exact congrArg (fun f => (List.range n).map f) (funext fun i => by rw [Int.zero_add])
theorem di_range1 (h : DenA Ω A E t n m) : DenI Ω A E (iRng1 t) (m.bind isRg1) := fun G σ env H R Ex k f q =>
  h G σ env H _ Ex k f (m.mono (fun ds q G1 vs H1 t1 r1 _ => by
    obtain ⟨j, rfl, le, q⟩ := q
    obtain ⟨v, rfl, rv⟩ := r1.one
    cases rv
    exact ⟨j, rfl, by omega, by omega, q G1 _ H1 t1 (walk_rg (rgD0 _))⟩) q)
def enumD (xs : List D) : List D := (List.range xs.length).map fun i => .tup [.int ((i : Nat) : Int), xs.getD i .non]
theorem enumD_at {xs : List D} {i : Nat} {x : D} (h : xs[i]? = some x) : (enumD xs)[i]? = some (.tup [.int ((i : Nat) : Int), x]) := by
  unfold enumD
  have lt := (List.getElem?_eq_some_iff.mp h).1
  rw [List.getElem?_map, List.getElem?_range lt]
  show some (D.tup [.int ((i : Nat) : Int), xs.getD i .non]) = _
  rw [List.getD_eq_getElem?_getD, h]
  rfl
theorem enumD_len (xs : List D) : (enumD xs).length = xs.length := by unfold enumD; rw [List.length_map, List.length_range]
theorem yen {G : Hp} {vs : List V} {xs : List D} (r : Reps Ω G vs xs) {i : Nat} {H H' : Hp} {x : V} (y : YPair (fun i => some (.int (i : Nat))) (fun i => vs[i]?) i H x H') : ∃ d, (enumD xs)[i]? = some d ∧ ((H' = H ∧ Rep Ω G x d) ∨ ∃ T us ds, x = .ref T ∧ d = .tup ds ∧ H T = none ∧ H' = upd H T (.tup us) ∧ Reps Ω G us ds) := by
  obtain ⟨T, x1, y1, e, hT, e2, e3, e4⟩ := y
  obtain ⟨d, hd, rd⟩ := r.at e4
  have e3 : V.int (i : Nat) = x1 := Option.some.inj e3
  subst e3
  exact ⟨_, enumD_at hd, .inr ⟨T, _, _, e, rfl, hT, e2, .cons (.int _) (.cons rd .nil)⟩⟩
def isEnum (f : D → Option (List D)) (ds : List D) : M (List D) := ⟨fun _ Q _ => ∃ x xs, ds = [x] ∧ f x = some xs ∧ Q (enumD xs), fun h _ ⟨i, j, a, b, q⟩ => ⟨i, j, a, b, h _ q⟩⟩
theorem di_enT (h : DenA Ω A E t n m) : DenI Ω A E (KW.iEnT K t) (m.bind (isEnum asTup)) := fun G σ env H R Ex k f q =>
  h G σ env H _ Ex k f (m.mono (fun ds q G1 vs H1 t1 r1 _ => by
    obtain ⟨x, xs, rfl, hx, q⟩ := q
    obtain ⟨v, rfl, rv⟩ := r1.one
    obtain ⟨a, us, rfl, ha, ru⟩ := rv.tupv (K := K) hx
    refine ⟨a, us, rfl, sqT_same t1.fr.sub ha, q G1 _ H1 t1 ?_⟩
    unfold WalkD
    rw [enumD_len, ← ru.length]
    exact (KW.walk_enT (K := K) (a := a) (xs := us)).mono (fun H s => sqT_same s ha) (fun i H x H' _ _ y => yen ru y)) q)
theorem di_enum (h : DenA Ω A E t n m) : DenI Ω A E (iEnum K t) (m.bind (isEnum asLst)) := fun G σ env H R Ex k f q =>
  h G σ env H _ Ex k f (m.mono (fun ds q G1 vs H1 t1 r1 _ => by
    obtain ⟨x, xs, rfl, hx, q⟩ := q
    obtain ⟨v, rfl, rv⟩ := r1.one
    obtain ⟨a, us, rfl, ha, ru⟩ := rv.lstv hx
    refine ⟨a, us, rfl, SqL.of (t1.fr.sub _ _ ha), q G1 _ H1 t1 ?_⟩
    unfold WalkD
    rw [enumD_len, ← ru.length]
    exact (walk_enum (K := K) (a := a) (xs := us)).mono (fun H s => SqL.of (s _ _ ha)) (fun i H x H' _ _ y => yen ru y)) q)
end
structure GD where
  wp : D → Env → (Env → Prop) → Prop
  mono : ∀ {d env Q Q'}, (∀ e, Q e → Q' e) → wp d env Q → wp d env Q'
structure GDs where
  wp : List D → Env → (Env → Prop) → Prop
  mono : ∀ {d env Q Q'}, (∀ e, Q e → Q' e) → wp d env Q → wp d env Q'
/-- what is of one's own there is so here -/
def OwnSub (σ : L2.St) (env : Env) (σ' : L2.St) (env' : Env) : Prop := ∀ j, isOwn (get env' j) = true → get env j = get env' j ∧ sl σ' j = sl σ j
theorem OwnSub.refl (σ : L2.St) (env : Env) : OwnSub σ env σ env := fun _ _ => ⟨rfl, rfl⟩
theorem OwnSub.trans {σ σ1 σ2 : L2.St} {env env1 env2 : Env} (a : OwnSub σ env σ1 env1) (b : OwnSub σ1 env1 σ2 env2) : OwnSub σ env σ2 env2 := fun j h => by
  obtain ⟨b1, b2⟩ := b j h
  obtain ⟨a1, a2⟩ := a j (by rw [b1]; exact h)
  exact ⟨a1.trans b1, b2.trans a2⟩
theorem OwnSub.put {σ : L2.St} {env : Env} {i : Nat} {o : Option V} {e : E1} (w : isOwn e = false) : OwnSub σ env (σ.set i o) (put env i e) := fun j h => by
  by_cases ej : j = i
  · subst ej
    by_cases lt : j < env.length
    · rw [get_put _ _ _ lt, w] at h
      cases h
    · rw [get_out _ _ (by rw [put_len]; omega)] at h
      cases h
  · rw [get_put_ne _ _ _ _ ej]
    exact ⟨rfl, sl_set_ne ej⟩
def DenG (Ω : Obs) (A : Am) (g : TG) (gd : GD) (ts : List Nat) : Prop := ∀ G σ env H x d Q, Ok Ω A G σ env H → Rep Ω G x d → gd.wp d env (fun env' => ∀ σ', Ok Ω A G σ' env' H → (∀ vs, (∀ i ∈ ts, i ∈ vs) → wipe σ' vs = wipe σ vs) → OwnSub σ env σ' env' → Q σ' H) → g x σ H Q
def DenGs (Ω : Obs) (A : Am) (g : TGs) (gd : GDs) (ts : List Nat) : Prop := ∀ G σ env H xs ds Q, Ok Ω A G σ env H → Reps Ω G xs ds → gd.wp ds env (fun env' => ∀ σ', Ok Ω A G σ' env' H → (∀ vs, (∀ i ∈ ts, i ∈ vs) → wipe σ' vs = wipe σ vs) → OwnSub σ env σ' env' → Q σ' H) → g xs σ H Q
def gdName (i : Nat) : GD := ⟨fun d env Q => Q (put env i (.d d)), fun h q => h _ q⟩
def gdNil : GDs := ⟨fun ds env Q => ds = [] ∧ Q env, fun h ⟨e, q⟩ => ⟨e, h _ q⟩⟩
def gdCons (g : GD) (r : GDs) : GDs := ⟨fun ds env Q => ∃ x xs, ds = x :: xs ∧ g.wp x env fun env' => r.wp xs env' Q, fun h ⟨x, xs, e, q⟩ => ⟨x, xs, e, g.mono (fun _ q => r.mono h q) q⟩⟩
def gdTup (n : Nat) (r : GDs) : GD := ⟨fun d env Q => ∃ xs, asTup d = some xs ∧ xs.length = n ∧ r.wp xs env Q, fun h ⟨xs, e, l, q⟩ => ⟨xs, e, l, r.mono h q⟩⟩
theorem wipe_set {σ : L2.St} {i : Nat} {o : Option V} : ∀ {vs : List Nat}, i ∈ vs → wipe (σ.set i o) vs = wipe σ vs := fun {vs} h => by
  apply List.ext_getElem?
  intro j
  induction vs generalizing j with
  | nil => exact absurd h (by simp)
  | cons v vs ih =>
    unfold wipe
    by_cases e : v = j
    · subst e
      by_cases lt : v < σ.length
      · rw [List.getElem?_set_self (by rw [wipe_length, List.length_set]; exact lt), List.getElem?_set_self (by rw [wipe_length]; exact lt)]
      · rw [List.getElem?_eq_none (by rw [List.length_set, wipe_length, List.length_set]; omega), List.getElem?_eq_none (by rw [List.length_set, wipe_length]; omega)]
    · rw [List.getElem?_set_ne e, List.getElem?_set_ne e]
      rcases List.mem_cons.mp h with rfl | h
      · by_cases hm : i ∈ vs
        · exact ih hm j
        · by_cases hj : j ∈ vs
          · have z : ∀ (τ : L2.St), τ.length = σ.length → (wipe τ vs)[j]? = if j < σ.length then some none else none := fun τ hτ => by
              by_cases lt : j < σ.length
              · rw [if_pos lt]
                cases q : (wipe τ vs)[j]? with
                | none =>
                  rw [List.getElem?_eq_none_iff, wipe_length] at q
                  omega
                | some w =>
                  cases w with
                  | none => rfl
                  | some u => exact absurd hj (wipe_some q).2
              · rw [if_neg lt, List.getElem?_eq_none (by rw [wipe_length]; omega)]
            rw [z _ (by rw [List.length_set]), z _ rfl]
          · rw [wipe_out hj, wipe_out hj, List.getElem?_set_ne e]
      · exact ih h j
section
variable {Ω : Obs} {A : Am} {K : PySem.W.Frag}
theorem dg_name {i : Nat} : DenG Ω A (gName i) (gdName i) [i] := fun G σ env H x d Q k r q => q _ (k.set i r) (fun vs h => wipe_set (h i (List.mem_singleton.mpr rfl))) (.put rfl)
theorem dgs_nil : DenGs Ω A gNil gdNil [] := fun G σ env H xs ds Q k r q => by
  obtain ⟨rfl, q⟩ := q
  cases r
  exact ⟨rfl, q σ k (fun _ _ => rfl) (.refl _ _)⟩
theorem dgs_cons {g : TG} {gd : GD} {ts : List Nat} {r : TGs} {rd : GDs} {us : List Nat} (h : DenG Ω A g gd ts) (h2 : DenGs Ω A r rd us) : DenGs Ω A (gCons g r) (gdCons gd rd) (ts ++ us) := fun G σ env H xs ds Q k rr q => by
  obtain ⟨x, ys, rfl, q⟩ := q
  cases rr with
  | cons rx ry =>
    refine ⟨_, _, rfl, h G σ env H _ _ _ k rx (gd.mono (fun env' q σ' k' w' o' => h2 G σ' env' H _ _ _ k' ry (rd.mono (fun env2 q σ2 k2 w2 o2 => q σ2 k2 (fun vs hv => ?_) (o'.trans o2)) q)) q)⟩
    rw [w2 vs fun i hi => hv i (List.mem_append_right _ hi), w' vs fun i hi => hv i (List.mem_append_left _ hi)]
theorem dg_tup {n : Nat} {r : TGs} {rd : GDs} {us : List Nat} (h : DenGs Ω A r rd us) : DenG Ω A (gTup K n r) (gdTup n rd) us := fun G σ env H x d Q k rx q => by
  obtain ⟨xs, e, l, q⟩ := q
  obtain ⟨a, vs, rfl, ha, rv⟩ := rx.tupv (K := K) e
  exact ⟨a, vs, rfl, sqT_same k.fr.sub ha, by rw [rv.length, l], h G σ env H vs xs Q k rv q⟩
end
def wipeE (env : Env) : List Nat → Env
  | [] => env
  | v :: vs => put (wipeE env vs) v .no
theorem Ok.drop {Ω : Obs} {A : Am} {G H : Hp} {σ : L2.St} {env : Env} (k : Ok Ω A G σ env H) (i : Nat) (o : Option V) : Ok Ω A G (σ.set i o) (put env i .no) H := k.set0 i rfl trivial
theorem Ok.wipe {Ω : Obs} {A : Am} {G H : Hp} {σ : L2.St} {env : Env} (k : Ok Ω A G σ env H) : ∀ vs : List Nat, Ok Ω A G (L2.wipe σ vs) (wipeE env vs) H
  | [] => k
  | v :: vs => (Ok.wipe k vs).drop v none
def mLc (mi : M (List D)) (g : GD) (mt : M Bool) (me : M D) (vs : List Nat) : M (List D) :=
  ⟨fun env Q Ex => mi.wp env (fun items => items.length ≤ 1000000 ∧ ∃ Iv : Nat → List D → Prop, Iv 0 [] ∧ (∀ i x ys, items[i]? = some x → Iv i ys → g.wp x (wipeE env vs) fun env2 => mt.wp env2 (fun b => if b = true then me.wp env2 (fun y => Iv (i + 1) (ys ++ [y])) (fun _ => False) else Iv (i + 1) ys) (fun _ => False)) ∧ ∀ ys, Iv items.length ys → Q ys) Ex,
   fun h hx q => mi.mono2 (fun items ⟨l, Iv, h0, hs, hd⟩ => ⟨l, Iv, h0, hs, fun ys z => h _ (hd ys z)⟩) hx q⟩
theorem rf_no {Ω : Obs} {A : Am} {G H : Hp} {E : XK} : Rf Ω A G H E (fun _ => False) := fun _ z => z.elim
section
variable {Ω : Obs} {A : Am} {E E2 E3 : XK} {ta tb tc : TE} {ma mb mc : M D} {t : TA} {n : Nat} {m : M (List D)} {K : PySem.W.Frag}
theorem do_lc {wi : TI} {mi : M (List D)} {g : TG} {gd : GD} {ts : List Nat} {tt : TT} {mt : M Bool} {te : TE} {me : M D} {vs : List Nat} (hi : DenI Ω A E wi mi) (hg : DenG Ω A g gd ts) (ht : DenT Ω A L2.E0 tt mt) (he : Den Ω A L2.E0 te me) (hts : ∀ i ∈ ts, i ∈ vs) :
    DenO Ω A E (tLc wi g tt te vs) (mLc mi gd mt me vs) := fun G σ env H Q Ex k f q =>
  hi G σ env H _ Ex k f (mi.mono (fun items q G1 J H1 t1 w => by
    obtain ⟨le, Iv, h0, hs, hd⟩ := q
    intro L hL
    have tA := Tr.allocOwn t1.fr (o := .lst []) hL
    have kA := (k.tr t1).tr tA
    refine lc_it w (fun i H' => ∃ (G' : Hp) (ys : List D) (us : List V), Ok Ω A G' σ env H' ∧ Tr A G H G' H' ∧ Same G1 G' ∧ H' L = some (.lst us) ∧ Reps Ω G' us ys ∧ G' L = none ∧ A.nw L ∧ ys.length ≤ i ∧ Iv i ys) ?_ ?_ ?_ ?_
    · exact ⟨G1, [], [], kA, t1.trans tA, Same.refl _, upd_same, .nil, t1.fr.sub.free hL, A.fr t1.fr.inv hL, Nat.zero_le _, h0⟩
    · rintro i H' _ ⟨G', ys, us, k', _, s', _⟩
      exact s'.trans k'.fr.sub
    · rintro i x H2 H3 hlt ⟨G', ys, us, k', tr', s', hL', ru, gL, nL, ly, inv⟩ ⟨d, hd', y⟩
      have step : ∀ (G3 : Hp), Ok Ω A G3 σ env H3 → Tr A G' H2 G3 H3 → Rep Ω G3 x d → g x (L2.wipe σ vs) H3 fun σ2 H4 => L2.wipe σ2 vs = L2.wipe σ vs ∧ tt σ2 H4 fun b H5 =>
          if b = true then te σ2 H5 fun y H6 => ∃ acc, H6 L = some (.lst acc) ∧ acc.length < sizeLine ∧ (∃ (G' : Hp) (ys : List D) (us : List V), Ok Ω A G' σ env (upd H6 L (.lst (acc ++ [y]))) ∧ Tr A G H G' (upd H6 L (.lst (acc ++ [y]))) ∧ Same G1 G' ∧ (upd H6 L (.lst (acc ++ [y]))) L = some (.lst us) ∧ Reps Ω G' us ys ∧ G' L = none ∧ A.nw L ∧ ys.length ≤ i + 1 ∧ Iv (i + 1) ys) else ∃ (G' : Hp) (ys : List D) (us : List V), Ok Ω A G' σ env H5 ∧ Tr A G H G' H5 ∧ Same G1 G' ∧ H5 L = some (.lst us) ∧ Reps Ω G' us ys ∧ G' L = none ∧ A.nw L ∧ ys.length ≤ i + 1 ∧ Iv (i + 1) ys := by
        intro G3 k3 t3 rx
        refine hg G3 _ _ H3 x d _ (k3.wipe vs) rx (gd.mono (fun env2 q σ2 k2 wz _ => ⟨?_, ?_⟩) (hs i d ys hd' inv))
        · rw [wz vs hts]
          have ww : ∀ (τ : L2.St) (us : List Nat), (∀ i ∈ us, i ∈ vs) → L2.wipe (L2.wipe τ us) vs = L2.wipe τ vs := fun τ us => by
            induction us with
            | nil => exact fun _ => rfl
            | cons u us ih =>
              intro hu
              show L2.wipe ((L2.wipe τ us).set u none) vs = _
              rw [wipe_set (hu u List.mem_cons_self)]
              exact ih fun i hi => hu i (List.mem_cons_of_mem _ hi)
          exact ww σ vs fun _ h => h
        · refine ht G3 σ2 env2 H3 _ _ k2 rf_no (mt.mono (fun b q G4 H4 t4 => ?_) q)
          have t34 := t3.trans t4
          cases b with
          | false =>
            have z := t34.own L (.lst us) trivial hL' nL gL
            exact ⟨G4, ys, us, k'.tr t34, tr'.trans t34, s'.trans t34.sub, z.1, ru.mono t34.sub, z.2, nL, by omega, q⟩
          | true =>
            refine he G4 σ2 env2 H4 _ _ (k2.tr t4) rf_no (me.mono (fun y q G5 v5 H5 t5 r5 => ?_) q)
            have t35 := t34.trans t5
            have z := t35.own L (.lst us) trivial hL' nL gL
            have k5 := k'.tr t35
            have lu : us.length ≤ i := by rw [ru.length]; exact ly
            have inv5 : A.I (upd H5 L (.lst (us ++ [v5]))) := A.put k5.fr.inv nL z.1 trivial
            have sub5 : Same G5 (upd H5 L (.lst (us ++ [v5]))) := fun b o q => by
              by_cases e : b = L
              · subst e
                rw [z.2] at q
                cases q
              · rw [upd_ne e]
                exact k5.fr.sub _ _ q
            have tr5 : Tr A G H G5 (upd H5 L (.lst (us ++ [v5]))) := by
              have t05 := tr'.trans t35
              refine ⟨⟨inv5, sub5, k5.fr.gd⟩, t05.sub, fun b ws mo hb nb gb => ?_⟩
              have w5 := t05.own b ws mo hb nb gb
              have ne : b ≠ L := FreshO.of t1 hL b ws mo hb nb gb
              exact ⟨by rw [upd_ne ne]; exact w5.1, w5.2⟩
            refine ⟨us, z.1, by rw [sizeLine_eq]; omega, G5, ys ++ [y], us ++ [v5], k.tr tr5, tr5, s'.trans t35.sub, upd_same, (ru.mono t35.sub).snoc r5, z.2, nL, by rw [List.length_append]; exact Nat.add_le_add_right ly 1, q⟩
      rcases y with ⟨rfl, rx⟩ | ⟨T, ws, ds, rfl, rfl, hT, rfl, rws⟩
      · exact step G' k' (.refl k'.fr) (rx.mono s')
      · have t3 := Tr.alloc k'.fr (o := .tup ws) hT (fun _ => by intro z; cases z)
        exact step _ (k'.tr t3) t3 (.tup upd_same (rws.mono (s'.trans t3.sub)))
    · rintro H' ⟨G', ys, us, k', tr', s', hL', ru, gL, nL, ly, inv⟩
      exact hd ys inv G' L us H' tr' (.of t1 hL) hL' ru gL nL) q)
end
end KD
set_option Elab.async false
set_option linter.all false
set_option maxRecDepth 100000
set_option maxHeartbeats 1000000
namespace KD
open PySem PySem.Spec PyProof.Rows L2
structure Ed where
  nx : Env → Prop
  rt : D → Prop
  ro : List D → Prop := fun _ => False
  bk : Env → Prop := fun _ => False
  ct : Env → Prop := fun _ => False
structure MS where
  wp : Ed → Env → (Exc → Prop) → Prop
  mono : ∀ {e e' env Ex}, (∀ x, e.nx x → e'.nx x) → (∀ x, e.rt x → e'.rt x) → (∀ x, e.bk x → e'.bk x) → (∀ x, e.ct x → e'.ct x) → (∀ x, e.ro x → e'.ro x) → wp e env Ex → wp e' env Ex
/-- what is wanted behind, by data and by the heap -/
structure Lk (Ω : Obs) (A : Am) (G : Hp) (e : Ends) (ed : Ed) : Prop where
  nx : ∀ G' σ env H, Same G G' → Ok Ω A G' σ env H → ed.nx env → e.nx σ H
  rt : ∀ G' v d H, Same G G' → Fr A G' H → Rep Ω G' v d → ed.rt d → e.rt v H
  ro : ∀ G' a vs ds H, Same G G' → Fr A G' H → H a = some (.lst vs) → Reps Ω G' vs ds → G' a = none → A.nw a → ed.ro ds → e.rt (.ref a) H
  bk : ∀ G' σ env H, Same G G' → Ok Ω A G' σ env H → ed.bk env → e.bk σ H
  ct : ∀ G' σ env H, Same G G' → Ok Ω A G' σ env H → ed.ct env → e.ct σ H
theorem Lk.sub {Ω : Obs} {A : Am} {G G' : Hp} {e : Ends} {ed : Ed} (l : Lk Ω A G e ed) (s : Same G G') : Lk Ω A G' e ed :=
  ⟨fun G2 σ env H s2 => l.nx G2 σ env H (s.trans s2), fun G2 v d H s2 => l.rt G2 v d H (s.trans s2), fun G2 a vs ds H s2 => l.ro G2 a vs ds H (s.trans s2), fun G2 σ env H s2 => l.bk G2 σ env H (s.trans s2), fun G2 σ env H s2 => l.ct G2 σ env H (s.trans s2)⟩
def DenS (Ω : Obs) (A : Am) (E : XK) (t : TS) (m : MS) : Prop := ∀ G σ env H e ed Ex, Ok Ω A G σ env H → RfS Ω A G E Ex → Lk Ω A G e ed → m.wp ed env Ex → t e σ H
namespace MS
def next : MS := ⟨fun e env _ => e.nx env, fun h _ _ _ _ q => h _ q⟩
def never : MS := ⟨fun _ _ _ => False, fun _ _ _ _ _ q => q⟩
def seq (a b : MS) : MS := ⟨fun e env Ex => a.wp { e with nx := fun env' => b.wp e env' Ex } env Ex, fun {e e' env Ex} h1 h2 h3 h4 h5 q => a.mono (e := { e with nx := fun env' => b.wp e env' Ex }) (e' := { e' with nx := fun env' => b.wp e' env' Ex }) (fun _ q => b.mono h1 h2 h3 h4 h5 q) h2 h3 h4 h5 q⟩
def ret (a : M D) : MS := ⟨fun e env Ex => a.wp env e.rt Ex, fun _ h _ _ _ q => a.mono h q⟩
/-- return of a list of one's own -/
def retO (a : M (List D)) : MS := ⟨fun e env Ex => a.wp env e.ro Ex, fun _ _ _ _ h q => a.mono h q⟩
def retV (i : Nat) : MS := ⟨fun e env _ => ∃ xs, get env i = .own xs ∧ e.ro xs, fun _ _ _ _ h ⟨xs, e, q⟩ => ⟨xs, e, h _ q⟩⟩
def drop (a : M D) : MS := ⟨fun e env Ex => a.wp env (fun _ => e.nx env) Ex, fun h _ _ _ _ q => a.mono (fun _ q => h _ q) q⟩
def asg (a : M D) (g : GD) : MS := ⟨fun e env Ex => a.wp env (fun d => g.wp d env e.nx) Ex, fun h _ _ _ _ q => a.mono (fun _ q => g.mono h q) q⟩
def setO (i : Nat) (a : M (List D)) : MS := ⟨fun e env Ex => a.wp env (fun ds => e.nx (KD.put env i (.own ds))) Ex, fun h _ _ _ _ q => a.mono (fun _ q => h _ q) q⟩
def ifS (c : M Bool) (a b : MS) : MS := ⟨fun e env Ex => c.wp env (fun k => if k = true then a.wp e env Ex else b.wp e env Ex) Ex, fun h1 h2 h3 h4 h5 q => c.mono (fun k q => by
  cases k with
  | true => exact a.mono h1 h2 h3 h4 h5 q
  | false => exact b.mono h1 h2 h3 h4 h5 q) q⟩
def app (i : Nat) (a : M D) : MS := ⟨fun e env Ex => ∃ xs, get env i = .own xs ∧ a.wp env (fun d => xs.length ≤ 1000000 ∧ e.nx (KD.put env i (.own (xs ++ [d])))) Ex, fun h _ _ _ _ ⟨xs, e, q⟩ => ⟨xs, e, a.mono (fun _ ⟨b, q⟩ => ⟨b, h _ q⟩) q⟩⟩
/-- xs[k] = e, k a place -/
def setAt (i : Nat) (a b : M D) : MS := ⟨fun e env Ex => ∃ xs, get env i = .own xs ∧ a.wp env (fun x => b.wp env (fun d => ∃ k : Nat, d = .int k ∧ k < xs.length ∧ e.nx (KD.put env i (.own (xs.set k x)))) Ex) Ex, fun h _ _ _ _ ⟨xs, e, q⟩ => ⟨xs, e, a.mono (fun _ q => b.mono (fun _ ⟨k, e1, l, q⟩ => ⟨k, e1, l, h _ q⟩) q) q⟩⟩
def frz (i : Nat) (a : MS) : MS := ⟨fun e env Ex => ∃ x, get env i = x ∧ isFz x = true ∧ a.wp e (KD.put env i (.d (frzD x))) Ex, fun h1 h2 h3 h4 h5 ⟨xs, e, w, q⟩ => ⟨xs, e, w, a.mono h1 h2 h3 h4 h5 q⟩⟩
def forS (mi : M (List D)) (g : GD) (b : MS) : MS := ⟨fun e env Ex => mi.wp env (fun items => ∃ Iv : Nat → Env → Prop, Iv 0 env ∧ (∀ i x env, items[i]? = some x → Iv i env → g.wp x env fun env2 => b.wp { e with nx := Iv (i + 1), ct := Iv (i + 1), bk := e.nx } env2 Ex) ∧ ∀ env, Iv items.length env → e.nx env) Ex,
  fun {e e' env Ex} h1 h2 h3 h4 h5 q => mi.mono (fun items ⟨Iv, a, b', c⟩ => ⟨Iv, a, fun i x env hx iv => g.mono (fun env2 q => b.mono (e := { e with nx := Iv (i + 1), ct := Iv (i + 1), bk := e.nx }) (e' := { e' with nx := Iv (i + 1), ct := Iv (i + 1), bk := e'.nx }) (fun _ z => z) h2 (fun _ z => h1 _ z) (fun _ z => z) h5 q) (b' i x env hx iv), fun env z => h1 _ (c env z)⟩) q⟩
def whileS (c : M Bool) (b : MS) : MS := ⟨fun e env Ex => ∃ Iv : Nat → Env → Prop, (∃ m, Iv m env) ∧ ∀ m env, Iv m env → c.wp env (fun k => if k = true then b.wp { e with nx := fun env' => ∃ m', m' < m ∧ Iv m' env', ct := fun env' => ∃ m', m' < m ∧ Iv m' env', bk := e.nx } env Ex else e.nx env) Ex,
  fun {e e' env Ex} h1 h2 h3 h4 h5 ⟨Iv, a, q⟩ => ⟨Iv, a, fun m env iv => c.mono (fun k q => by
    cases k with
    | true => exact b.mono (e := { e with nx := fun env' => ∃ m', m' < m ∧ Iv m' env', ct := fun env' => ∃ m', m' < m ∧ Iv m' env', bk := e.nx }) (e' := { e' with nx := fun env' => ∃ m', m' < m ∧ Iv m' env', ct := fun env' => ∃ m', m' < m ∧ Iv m' env', bk := e'.nx }) (fun _ z => z) h2 (fun _ z => h1 _ z) (fun _ z => z) h5 q
    | false => exact h1 _ q) (q m env iv)⟩⟩
/-- a word between two statements -/
theorem cut {a b : MS} {e : Ed} {env : Env} {Ex : Exc → Prop} (Mid : Env → Prop) (h1 : a.wp { e with nx := Mid } env Ex) (h2 : ∀ env', Mid env' → b.wp e env' Ex) : (seq a b).wp e env Ex := a.mono (e := { e with nx := Mid }) (e' := { e with nx := fun env' => b.wp e env' Ex }) h2 (fun _ z => z) (fun _ z => z) (fun _ z => z) (fun _ z => z) h1
end MS
section
variable {Ω : Obs} {A : Am} {E : XK} {ta tb tc : TE} {ma mb mc : M D} {t : TA} {n : Nat} {m : M (List D)} {K : PySem.W.Frag} {ts us : TS} {ms mu : MS}
theorem ds_next : DenS Ω A E tNext .next := fun G σ env H e ed Ex k f l q => l.nx G σ env H (Same.refl _) k q
theorem ds_never : DenS Ω A E ts .never := fun G σ env H e ed Ex k f l q => q.elim
theorem ds_seq (h : DenS Ω A E ts ms) (h2 : DenS Ω A E us mu) : DenS Ω A E (tSeq ts us) (.seq ms mu) := fun G σ env H e ed Ex k f l q =>
  h G σ env H _ { ed with nx := fun env' => mu.wp ed env' Ex } Ex k f ⟨fun G' σ' env' H' s k' q => h2 G' σ' env' H' e ed Ex k' (f.sub s) (l.sub s) q, l.rt, l.ro, l.bk, l.ct⟩ q
theorem ds_ret (h : Den Ω A E ta ma) : DenS Ω A E (tRet ta) (.ret ma) := fun G σ env H e ed Ex k f l q =>
  h G σ env H _ Ex k f.e (ma.mono (fun d q G' v H' t r => l.rt G' v d H' t.sub t.fr r q) q)
theorem ds_retO (h : DenO Ω A E ta m) : DenS Ω A E (tRet ta) (.retO m) := fun G σ env H e ed Ex k f l q =>
  h G σ env H _ Ex k f.e (m.mono (fun d q G' a vs H' t fr ha r g nw => l.ro G' a vs d H' t.sub t.fr ha r g nw q) q)
theorem ds_retV {i : Nat} : DenS Ω A E (tRet (tVar i)) (.retV i) := fun G σ env H e ed Ex k f l ⟨xs, hx, q⟩ => by
  obtain ⟨a, vs, hs, ha, r, g, nw⟩ := k.own hx
  exact ⟨_, hs, l.ro G a vs xs H (Same.refl _) k.fr ha r g nw q⟩
theorem ds_asg {g : TG} {gd : GD} {us : List Nat} (h : Den Ω A E ta ma) (hg : DenG Ω A g gd us) : DenS Ω A E (tAsg ta g) (.asg ma gd) := fun G σ env H e ed Ex k f l q =>
  h G σ env H _ Ex k f.e (ma.mono (fun d q G' v H' t r => hg G' σ env H' v d _ (k.tr t) r (gd.mono (fun env' q σ' k' _ _ => l.nx G' σ' env' H' t.sub k' q) q)) q)
theorem ds_set {i : Nat} (h : Den Ω A E ta ma) : DenS Ω A E (tAsg ta (gName i)) (.asg ma (gdName i)) := ds_asg h dg_name
theorem ds_setO {i : Nat} (h : DenO Ω A E ta m) : DenS Ω A E (tAsg ta (gName i)) (.setO i m) := fun G σ env H e ed Ex k f l q =>
  h G σ env H _ Ex k f.e (m.mono (fun ds q G' a vs H' t fr ha r g nw => l.nx G' _ _ H' t.sub ((k.tr t).setOwn i ha r g nw (fun j hj _ => k.farO fr j hj) fun j _ => k.farI fr j) q) q)
theorem ds_if {c : TT} {mk : M Bool} (h : DenT Ω A E c mk) (h1 : DenS Ω A E ts ms) (h2 : DenS Ω A E us mu) : DenS Ω A E (tIfS c ts us) (.ifS mk ms mu) := fun G σ env H e ed Ex k f l q =>
  h G σ env H _ Ex k f.e (mk.mono (fun b q G' H' t => by
    cases b with
    | true => exact h1 G' σ env H' e ed Ex (k.tr t) (f.sub t.sub) (l.sub t.sub) q
    | false => exact h2 G' σ env H' e ed Ex (k.tr t) (f.sub t.sub) (l.sub t.sub) q) q)
theorem ds_app {i : Nat} (h : Den Ω A E ta ma) : DenS Ω A E (tDrop (tBM K "list" rAppend (tVar i) (tCons ta tNil))) (.app i ma) := fun G σ env H e ed Ex k f l ⟨xs, hx, q⟩ => by
  obtain ⟨a, vs, hs, ha, r, g, nw⟩ := k.own hx
  refine ⟨_, hs, .inl ⟨rfl, vs, SqL.of ha⟩, h G σ env H _ Ex k f.e (ma.mono (fun d q G' v H' t rv => ?_) q)⟩
  obtain ⟨h', g'⟩ := t.own a (.lst vs) trivial ha nw g
  refine ⟨a, vs, v, rfl, rfl, h', by rw [sizeLine_eq, r.length]; have := q.1; omega, ?_⟩
  exact l.nx G' σ _ _ t.sub ((k.tr t).turn hx hs ((r.mono t.sub).snoc rv)) q.2
theorem ds_frz {i : Nat} (h : DenS Ω A E ts ms) : DenS Ω A E ts (.frz i ms) := fun G σ env H e ed Ex k f l ⟨xs, hx, w, q⟩ => by
  obtain ⟨G', s, k'⟩ := k.freezeO hx w
  exact h G' σ _ H e ed Ex k' (f.sub s) (l.sub s) q
theorem ds_for {wi : TI} {mi : M (List D)} {g : TG} {gd : GD} {vs : List Nat} (hi : DenI Ω A E wi mi) (hg : DenG Ω A g gd vs) (hb : DenS Ω A E ts ms) : DenS Ω A E (tFor wi g ts) (.forS mi gd ms) := fun G σ env H e ed Ex k f l q =>
  hi G σ env H _ Ex k f.e (mi.mono (fun items q G1 J H1 t1 w => by
    obtain ⟨Iv, h0, hs, hd⟩ := q
    refine for_it w (fun i σ' H' => ∃ G' env', Same G1 G' ∧ Ok Ω A G' σ' env' H' ∧ Iv i env') ⟨G1, env, Same.refl _, k.tr t1, h0⟩ ?_ ?_ ?_
    · rintro i σ' H' _ ⟨G', env', s', k', _⟩
      exact s'.trans k'.fr.sub
    · rintro i x σ' H2 H3 hlt ⟨G', env', s', k', iv⟩ ⟨d, hd', y⟩
      have step : ∀ (G3 : Hp), Same G' G3 → Ok Ω A G3 σ' env' H3 → Rep Ω G3 x d → g x σ' H3 fun σ2 H4 => ts { e with nx := fun σ' H' => ∃ G' env', Same G1 G' ∧ Ok Ω A G' σ' env' H' ∧ Iv (i + 1) env', ct := fun σ' H' => ∃ G' env', Same G1 G' ∧ Ok Ω A G' σ' env' H' ∧ Iv (i + 1) env', bk := e.nx } σ2 H4 := by
        intro G3 s3 k3 rx
        have s13 := s'.trans s3
        have s03 := t1.sub.trans s13
        refine hg G3 σ' env' H3 x d _ k3 rx (gd.mono (fun env2 q σ2 k2 _ _ => hb G3 σ2 env2 H3 _ _ Ex k2 (f.sub s03) ⟨?_, ?_, ?_, ?_, ?_⟩ q) (hs i d env' hd' iv))
        · exact fun G4 σ4 env4 H4 s4 k4 q => ⟨G4, env4, s13.trans s4, k4, q⟩
        · exact fun G4 v d H4 s4 => l.rt G4 v d H4 (s03.trans s4)
        · exact fun G4 a vs ds H4 s4 => l.ro G4 a vs ds H4 (s03.trans s4)
        · exact fun G4 σ4 env4 H4 s4 k4 q => l.nx G4 σ4 env4 H4 (s03.trans s4) k4 q
        · exact fun G4 σ4 env4 H4 s4 k4 q => ⟨G4, env4, s13.trans s4, k4, q⟩
      rcases y with ⟨rfl, rx⟩ | ⟨T, ws, ds, rfl, rfl, hT, rfl, rws⟩
      · exact step G' (Same.refl _) k' (rx.mono s')
      · have t3 := Tr.alloc k'.fr (o := .tup ws) hT (fun _ => by intro z; cases z)
        exact step _ t3.sub (k'.tr t3) (.tup upd_same (rws.mono (s'.trans t3.sub)))
    · rintro σ' H' ⟨G', env', s', k', iv⟩
      exact l.nx G' σ' env' H' (t1.sub.trans s') k' (hd env' iv)) q)
theorem ds_while {c : TT} {mk : M Bool} (h : DenT Ω A E c mk) (hb : DenS Ω A E ts ms) : DenS Ω A E (tWhile c ts) (.whileS mk ms) := fun G σ env H e ed Ex k f l q => by
  obtain ⟨Iv, ⟨m0, h0⟩, hs⟩ := q
  refine ⟨fun m σ' H' => ∃ G' env', Same G G' ∧ Ok Ω A G' σ' env' H' ∧ Iv m env', ⟨m0, G, env, Same.refl _, k, h0⟩, ?_⟩
  rintro m σ' H' ⟨G', env', s', k', iv⟩
  refine h G' σ' env' H' _ Ex k' (f.sub s').e (mk.mono (fun b q G2 H2 t2 => ?_) (hs m env' iv))
  cases b with
  | false => exact l.nx G2 σ' env' H2 (s'.trans t2.sub) (k'.tr t2) q
  | true =>
    refine ⟨fun σ3 H3 => ∃ G3 env3, Same G2 G3 ∧ Ok Ω A G3 σ3 env3 H3 ∧ ∃ m', m' < m ∧ Iv m' env3, ?_, ?_⟩
    · rintro σ3 H3 ⟨G3, env3, s3, k3, m', lt, iv'⟩
      exact ⟨m', lt, G3, env3, s'.trans (t2.sub.trans s3), k3, iv'⟩
    · have s02 := s'.trans t2.sub
      refine hb G2 σ' env' H2 _ _ Ex (k'.tr t2) (f.sub s02) ⟨?_, ?_, ?_, ?_, ?_⟩ q
      · exact fun G4 σ4 env4 H4 s4 k4 q => ⟨G4, env4, s4, k4, q⟩
      · exact fun G4 v d H4 s4 => l.rt G4 v d H4 (s02.trans s4)
      · exact fun G4 a vs ds H4 s4 => l.ro G4 a vs ds H4 (s02.trans s4)
      · exact fun G4 σ4 env4 H4 s4 k4 q => l.nx G4 σ4 env4 H4 (s02.trans s4) k4 q
      · exact fun G4 σ4 env4 H4 s4 k4 q => ⟨G4, env4, s4, k4, q⟩
end
end KD
set_option Elab.async false
set_option linter.all false
set_option maxRecDepth 100000
set_option maxHeartbeats 1000000
namespace KD
open PySem PySem.Spec PyProof.Rows L2 LamX
/-- what a def promises -/
structure MF where
  n : Nat
  wp : List D → (D → Prop) → (Exc → Prop) → Prop
  mono : ∀ {ds Q Q' Ex Ex'}, (∀ d, Q d → Q' d) → (∀ x, Ex x → Ex' x) → wp ds Q Ex → wp ds Q' Ex'
  len : ∀ {ds Q Ex}, wp ds Q Ex → ds.length = n
/-- it gives a new list -/
structure MFO where
  n : Nat
  wp : List D → (List D → Prop) → (Exc → Prop) → Prop
  mono : ∀ {ds Q Q' Ex Ex'}, (∀ d, Q d → Q' d) → (∀ x, Ex x → Ex' x) → wp ds Q Ex → wp ds Q' Ex'
  len : ∀ {ds Q Ex}, wp ds Q Ex → ds.length = n
def spD (Ω : Obs) (m : MF) : Sp := fun vs H Q E => ∃ G ds, Same G H ∧ Reps Ω G vs ds ∧ m.wp ds (fun d => ∀ G' v H', Same H H' → Same G G' → Same G' H' → New G G' H → Rep Ω G' v d → Q v H') (fun x => RefD Ω x G H E)
def spO (Ω : Obs) (m : MFO) : Sp := fun vs H Q E => ∃ G ds, Same G H ∧ Reps Ω G vs ds ∧ m.wp ds (fun xs => ∀ G' a us H', Same H H' → Same G G' → Same G' H' → New G G' H → H a = none → H' a = some (.lst us) → Reps Ω G' us xs → G' a = none → Q (.ref a) H') (fun x => RefD Ω x G H E)
theorem spD_len {Ω : Obs} {m : MF} {vs : List V} {H : Hp} {Q : VK} {E : XK} (h : spD Ω m vs H Q E) : vs.length = m.n := by
  obtain ⟨G, ds, _, r, w⟩ := h
  rw [r.length, m.len w]
theorem spO_len {Ω : Obs} {m : MFO} {vs : List V} {H : Hp} {Q : VK} {E : XK} (h : spO Ω m vs H Q E) : vs.length = m.n := by
  obtain ⟨G, ds, _, r, w⟩ := h
  rw [r.length, m.len w]
def mCall0 (m : MF) (ds : List D) : M D := ⟨fun _ Q _ => m.wp ds Q (fun _ => False), fun h hx q => m.mono h (fun _ z => z) q⟩
def mCallO0 (m : MFO) (ds : List D) : M (List D) := ⟨fun _ Q _ => m.wp ds Q (fun _ => False), fun h hx q => m.mono h (fun _ z => z) q⟩
section
variable {Ω : Obs} {A : Am} {E E' : XK} {ta : TE} {ma : M D} {t : TA} {n : Nat} {m : M (List D)} {K : PySem.W.Frag}
theorem c_call0 {f : MF} : CallD Ω E (fun vs H Q => spD Ω f vs H Q E') (mCall0 f) := fun A G H vs ds Q env Ex fr r rs q =>
  ⟨G, ds, fr.sub, rs, f.mono (fun d q G' v H' s g k nw rv => q G' v H' (Tr.call fr s g k nw) rv) (fun x hx => hx.elim) q⟩
theorem c_callO0 {f : MFO} : CallO Ω E (fun vs H Q => spO Ω f vs H Q E') (mCallO0 f) := fun A G H vs ds Q env Ex fr r rs q =>
  ⟨G, ds, fr.sub, rs, f.mono (fun d q G' a us H' s g k nw ha h r2 g2 => q G' a us H' (Tr.call fr s g k nw) (.of (.refl fr) ha) h r2 g2 (A.fr fr.inv ha)) (fun x hx => hx.elim) q⟩
theorem nil_r {r : List V → Hp → VK → Prop} : (fun vs H Q => r (vs ++ []) H Q) = r := funext fun vs => by rw [List.append_nil]
/-- f(..), f given by its data -/
theorem dn_callG {sp : Sp} {g : List D → M D} (c : CallD Ω E (fun vs H Q => sp vs H Q E') g) (h : DenA Ω A E t n m) : Den Ω A E (tCall sp [] E' t) (m.bind g) := by
  have z := dn_callR (r := fun vs H Q => sp (vs ++ []) H Q E') (g := g) (by rw [nil_r (r := fun vs H Q => sp vs H Q E')]; exact c) h
  exact z
theorem do_callG {sp : Sp} {g : List D → M (List D)} (c : CallO Ω E (fun vs H Q => sp vs H Q E') g) (h : DenA Ω A E t n m) : DenO Ω A E (tCall sp [] E' t) (m.bind g) := by
  have z := do_callR (r := fun vs H Q => sp (vs ++ []) H Q E') (g := g) (by rw [nil_r (r := fun vs H Q => sp vs H Q E')]; exact c) h
  exact z
theorem dn_call0 {f : MF} (h : DenA Ω A E t n m) : Den Ω A E (tCall (spD Ω f) [] E' t) (m.bind (mCall0 f)) := dn_callG c_call0 h
theorem do_call0 {f : MFO} (h : DenA Ω A E t n m) : DenO Ω A E (tCall (spO Ω f) [] E' t) (m.bind (mCallO0 f)) := do_callG c_callO0 h
/-- o.m(..) -/
def InsOf (Ω : Obs) (c : Nat) (C : Addr) (x : Str) : Prop := ∀ d G a, Ω.rep c d G a → ∃ dx fs, G a = some (.ins C dx fs) ∧ fs.lookup x = none
def mMeth (c : Nat) (g : List D → M D) (a : M D) (m : M (List D)) : M D := a.bind fun x => ⟨fun env Q Ex => ∃ d, x = .obj c d ∧ m.wp env (fun ds => (g (x :: ds)).wp env Q Ex) Ex, fun h hx ⟨d, e, q⟩ => ⟨d, e, m.mono2 (fun ds q => (g _).mono2 h hx q) hx q⟩⟩
def mMethO (c : Nat) (g : List D → M (List D)) (a : M D) (m : M (List D)) : M (List D) := a.bind fun x => ⟨fun env Q Ex => ∃ d, x = .obj c d ∧ m.wp env (fun ds => (g (x :: ds)).wp env Q Ex) Ex, fun h hx ⟨d, e, q⟩ => ⟨d, e, m.mono2 (fun ds q => (g _).mono2 h hx q) hx q⟩⟩
theorem dn_meth {sp : Sp} {g : List D → M D} {c : Nat} {C : Addr} {x : Str} (io : InsOf Ω c C x) (cd : CallD Ω E (fun vs H Q => sp vs H Q E') g) (ha : Den Ω A E ta ma) (h : DenA Ω A E t n m) : Den Ω A E (tMeth C x sp [] E' ta t) (mMeth c g ma m) := fun G σ env H Q Ex k f q =>
  ha G σ env H _ Ex k f (ma.mono (fun o q G1 v1 H1 t1 r1 => by
    obtain ⟨d, rfl, q⟩ := q
    cases r1 with
    | obj ho =>
      obtain ⟨dx, fs, hi, hl⟩ := io _ _ _ ho
      refine ⟨_, dx, fs, rfl, t1.fr.sub _ _ hi, hl, h G1 σ env H1 _ Ex (k.tr t1) (f.tr t1) (m.mono (fun ds q G2 vs H2 t2 r2 _ => ?_) q)⟩
      rw [List.append_nil]
      exact cd A G2 H2 _ (.obj c d :: ds) Q env Ex t2.fr ((f.tr t1).tr t2) (.cons (.obj (Ω.mono t2.sub ho)) r2) ((g _).mono (fun e q G3 v3 H3 t3 r3 => q G3 v3 H3 (t1.trans (t2.trans t3)) r3) q)) q)
theorem do_meth {sp : Sp} {g : List D → M (List D)} {c : Nat} {C : Addr} {x : Str} (io : InsOf Ω c C x) (cd : CallO Ω E (fun vs H Q => sp vs H Q E') g) (ha : Den Ω A E ta ma) (h : DenA Ω A E t n m) : DenO Ω A E (tMeth C x sp [] E' ta t) (mMethO c g ma m) := fun G σ env H Q Ex k f q =>
  ha G σ env H _ Ex k f (ma.mono (fun o q G1 v1 H1 t1 r1 => by
    obtain ⟨d, rfl, q⟩ := q
    cases r1 with
    | obj ho =>
      obtain ⟨dx, fs, hi, hl⟩ := io _ _ _ ho
      refine ⟨_, dx, fs, rfl, t1.fr.sub _ _ hi, hl, h G1 σ env H1 _ Ex (k.tr t1) (f.tr t1) (m.mono (fun ds q G2 vs H2 t2 r2 _ => ?_) q)⟩
      rw [List.append_nil]
      exact cd A G2 H2 _ (.obj c d :: ds) Q env Ex t2.fr ((f.tr t1).tr t2) (.cons (.obj (Ω.mono t2.sub ho)) r2) ((g _).mono (fun e q G3 a us H3 t3 fr ha r3 g3 nw => q G3 a us H3 (t1.trans (t2.trans t3)) (fr.tr (t1.trans t2)) ha r3 g3 nw) q)) q)
/-- len(o), o an object -/
theorem dn_callB {r : List V → Hp → VK → Prop} {g : List D → M D} (c : CallD Ω E r g) (h : DenA Ω A E t n m) : Den Ω A E (tCB r t) (m.bind g) := dn_callR c h
theorem do_callB {r : List V → Hp → VK → Prop} {g : List D → M (List D)} (c : CallO Ω E r g) (h : DenA Ω A E t n m) : DenO Ω A E (tCB r t) (m.bind g) := do_callR c h
end
def A0 (G0 H0 : Hp) : Am where
  I := fun H => Same H0 H
  gd := fun a o => G0 a = some o ∨ (H0 a = none ∧ ∀ ps, o ≠ .tbl ps) ∨ Fx o
  nw := fun a => H0 a = none
  bg := none
  mono := fun s h => Same.trans h s
  put := fun h n _ _ b o q => by
    rw [upd_ne (ne_of_none q n)]
    exact h _ _ q
  unl := fun h n _ b o q => by
    rw [upd_ne (ne_of_none q n)]
    exact h _ _ q
  al := fun h n nt => .inr (.inl ⟨Same.free h n, nt⟩)
  fr := fun h n => Same.free h n
  gl := fun n m => .inr (.inl ⟨n, m.nt⟩)
  fx := fun _ _ f => .inr (.inr f)
def envOf (ds : List D) (k : Nat) : Env := ds.map .d ++ List.replicate k .no
theorem get_no : ∀ (k i : Nat), get (List.replicate k E1.no) i = .no
  | 0, _ => rfl
  | _ + 1, 0 => rfl
  | k + 1, i + 1 => get_no k i
theorem start_slot {Ω : Obs} {A : Am} {G H : Hp} (k k' : Nat) : ∀ {vs : List V} {ds : List D}, Reps Ω G vs ds → ∀ i, SlotR Ω A G H (sl (vs.map some ++ List.replicate k' none) i) (get (envOf ds k) i)
  | _, _, .nil, i => by
    show SlotR Ω A G H _ (get (List.replicate k E1.no) i)
    rw [get_no]
    exact trivial
  | _, _, .cons h r, 0 => ⟨_, rfl, h⟩
  | _, _, .cons h r, i + 1 => start_slot k k' r i
theorem start_own (k : Nat) : ∀ (ds : List D) (i : Nat), isOwn (get (envOf ds k) i) ≠ true
  | [], i, h => by
    have z : isOwn (get (List.replicate k E1.no) i) = true := h
    rw [get_no] at z
    cases z
  | _ :: _, 0, h => by cases h
  | _ :: ds, i + 1, h => start_own k ds i h
theorem ok_start {Ω : Obs} {A : Am} {G H : Hp} {N : List Str} {vs : List V} {ds : List D} (f : Fr A G H) (r : Reps Ω G vs ds) (k : Nat) (hN : N.length = ds.length + k) : Ok Ω A G (L2.start N vs) (envOf ds k) H := by
  refine ⟨f, ?_, start_slot k _ r, fun i j h => absurd h (start_own k ds i), fun i h ls xss e => absurd (show isOwn (get (envOf ds k) i) = true by rw [e]; rfl) (start_own k ds i)⟩
  unfold L2.start envOf
  rw [List.length_append, List.length_append, List.length_map, List.length_map, List.length_replicate, List.length_replicate, hN, r.length]
  omega
section
variable {Ω : Obs} {N : List Str} {vs : List V} {H : Hp} {Q : VK} {E : XK} {t : TS} {ms : MS}
theorem fr_start {G H : Hp} (s : Same G H) : Fr (A0 G H) G H := ⟨Same.refl _, s, fun _ _ h => .inl h⟩
theorem rf_start {G H : Hp} {Ex : Exc → Prop} (h : ∀ x, Ex x → RefD Ω x G H E) : RfS Ω (A0 G H) G E Ex := fun x hx G' H' s f d fs G2 H2 s1 g1 k1 nw hd => h x hx d fs G2 H2 (Same.trans f.inv s1) (s.trans g1) k1 (fun a o q => by
  rcases nw a o q with z | ⟨z, nt⟩ | z
  · exact f.gd a o z
  · exact .inr (.inl ⟨Same.free f.inv z, nt⟩)
  · exact .inr (.inr z)) (Same.free f.inv hd)
theorem run_pure {m : MF} (h : spD Ω m vs H Q E) (k : Nat) (hN : N.length = m.n + k) (hd : ∀ A, DenS Ω A E t ms) (body : ∀ ds Q Ex, m.wp ds Q Ex → ms.wp { nx := fun _ => Q .non, rt := Q } (envOf ds k) Ex) : t { nx := fun _ H' => Q .non H', rt := Q } (L2.start N vs) H := by
  obtain ⟨G, ds, s, r, w⟩ := h
  refine hd (A0 G H) G (L2.start N vs) (envOf ds k) H _ _ _ (ok_start (fr_start s) r k (by rw [m.len w]; exact hN)) (rf_start fun x hx => hx) ?_ (body ds _ _ w)
  exact ⟨fun G' σ env H' s' k' q => q G' .non H' k'.fr.inv s' k'.fr.sub k'.fr.gd .non, fun G' v d H' s' f rv q => q G' v H' f.inv s' f.sub f.gd rv, fun _ _ _ _ _ _ _ _ _ _ _ q => q.elim, fun _ _ _ _ _ _ q => q.elim, fun _ _ _ _ _ _ q => q.elim⟩
/-- it gives a new list -/
theorem run_pureO {m : MFO} (h : spO Ω m vs H Q E) (k : Nat) (hN : N.length = m.n + k) (hd : ∀ A, DenS Ω A E t ms) (body : ∀ ds Q Ex, m.wp ds Q Ex → ms.wp { nx := fun _ => False, rt := fun _ => False, ro := Q } (envOf ds k) Ex) : t { nx := fun _ H' => Q .non H', rt := Q } (L2.start N vs) H := by
  obtain ⟨G, ds, s, r, w⟩ := h
  refine hd (A0 G H) G (L2.start N vs) (envOf ds k) H _ _ _ (ok_start (fr_start s) r k (by rw [m.len w]; exact hN)) (rf_start fun x hx => hx) ?_ (body ds _ _ w)
  exact ⟨fun _ _ _ _ _ _ q => q.elim, fun _ _ _ _ _ _ _ q => q.elim, fun G' a us xs H' s' f ha ru g nw q => q G' a us H' f.inv s' f.sub f.gd nw ha ru g, fun _ _ _ _ _ _ q => q.elim, fun _ _ _ _ _ _ q => q.elim⟩
end
def GrowB (b : Addr) (H H' : Hp) : Prop := ∀ a o, a ≠ b → H a = some o → H' a = some o
structure BagA (A : Am) (b l : Addr) (ms : List Int) : Prop where
  bg : A.bg = some b
  at_ : ∀ {H}, A.I H → KW.BagAt b l ms H
  grow : ∀ {H H'}, A.I H → GrowB b H H' → KW.BagAt b l ms H' → A.I H'
  gd : ∀ {a o}, A.gd a o → a ≠ b
  nw : ∀ {a}, A.nw a → a ≠ b
theorem Tr.bag {A : Am} {b l : Addr} {ms : List Int} (B : BagA A b l ms) {G H G1 H1 : Hp} (f : Fr A G H) (s : GrowB b H H1) (Bg : KW.BagAt b l ms H1) (g : Same G G1) (k : Same G1 H1) (n : New G G1 H) : Tr A G H G1 H1 := by
  refine ⟨⟨B.grow f.inv s Bg, k, fun a o h => ?_⟩, g, fun a vs mo h nw gn => ⟨s _ _ (B.nw nw) h, ?_⟩⟩
  · rcases n a o h with h1 | ⟨h1, nt⟩ | h1
    · exact f.gd _ _ h1
    · exact A.al f.inv h1 nt
    · exact A.fx (B.grow f.inv s Bg) (k _ _ h) h1
  · cases q : G1 a with
    | none => rfl
    | some o =>
      rcases n a o q with h1 | ⟨h1, _⟩ | h1
      · rw [gn] at h1
        cases h1
      · rw [h] at h1
        cases h1
      · have z := k _ _ q
        rw [s _ _ (B.nw nw) h] at z
        cases z
        cases vs <;> first | exact h1.elim | exact mo.elim
def spB (Ω : Obs) (m : MF) : Sp := fun vs H Q _ => ∃ b l ms us G ds, vs = .ref b :: us ∧ KW.BagAt b l ms H ∧ G b = none ∧ Same G H ∧ Reps Ω G us ds ∧ m.wp ds (fun d => ∀ G' v H', GrowB b H H' → KW.BagAt b l ms H' → Same G G' → Same G' H' → New G G' H → Rep Ω G' v d → Q v H') (fun _ => False)
def spBO (Ω : Obs) (m : MFO) : Sp := fun vs H Q _ => ∃ b l ms us G ds, vs = .ref b :: us ∧ KW.BagAt b l ms H ∧ G b = none ∧ Same G H ∧ Reps Ω G us ds ∧ m.wp ds (fun xs => ∀ G' a ws H', GrowB b H H' → KW.BagAt b l ms H' → Same G G' → Same G' H' → New G G' H → H a = none → H' a = some (.lst ws) → Reps Ω G' ws xs → G' a = none → Q (.ref a) H') (fun _ => False)
theorem spB_len {Ω : Obs} {m : MF} {vs : List V} {H : Hp} {Q : VK} {E : XK} (h : spB Ω m vs H Q E) : vs.length = m.n + 1 := by
  obtain ⟨b, l, ms, us, G, ds, rfl, _, _, _, r, w⟩ := h
  rw [List.length_cons, r.length, m.len w]
/-- f(bag, ..) -/
def mBag (i : Nat) {α : Type} (m : M α) : M α := ⟨fun env Q Ex => get env i = .bag ∧ m.wp env Q Ex, fun h hx ⟨e, q⟩ => ⟨e, m.mono2 h hx q⟩⟩
section
variable {Ω : Obs} {A : Am} {E E' : XK} {t : TA} {n : Nat} {m : M (List D)} {b l : Addr} {ms : List Int}
theorem fr_off {G H : Hp} (B : BagA A b l ms) (f : Fr A G H) : G b = none := by
  cases q : G b with
  | none => rfl
  | some o => exact absurd rfl (B.gd (f.gd _ _ q))
theorem dn_bag {f : MF} {i : Nat} (B : BagA A b l ms) (h : DenA Ω A E t n m) : Den Ω A E (tCall (spB Ω f) [] E' (tCons (tVar i) t)) (mBag i (m.bind (mCall0 f))) := fun G σ env H Q Ex k r ⟨e, q⟩ => by
  obtain ⟨b', e1, e2⟩ := k.bagd e
  rw [B.bg] at e1
  cases e1
  refine ⟨_, e2, h G σ env H _ Ex k r (m.mono (fun ds q G1 vs H1 t1 r1 _ => ?_) q)⟩
  show spB Ω f (_ ++ []) H1 Q E'
  rw [List.append_nil]
  exact ⟨b, l, ms, vs, G1, ds, rfl, B.at_ t1.fr.inv, fr_off B t1.fr, t1.fr.sub, r1, f.mono (fun d q G' v H' s Bg g kk nw rv => q G' v H' (t1.trans (Tr.bag B t1.fr s Bg g kk nw)) rv) (fun _ z => z) q⟩
theorem do_bag {f : MFO} {i : Nat} (B : BagA A b l ms) (h : DenA Ω A E t n m) : DenO Ω A E (tCall (spBO Ω f) [] E' (tCons (tVar i) t)) (mBag i (m.bind (mCallO0 f))) := fun G σ env H Q Ex k r ⟨e, q⟩ => by
  obtain ⟨b', e1, e2⟩ := k.bagd e
  rw [B.bg] at e1
  cases e1
  refine ⟨_, e2, h G σ env H _ Ex k r (m.mono (fun ds q G1 vs H1 t1 r1 _ => ?_) q)⟩
  show spBO Ω f (_ ++ []) H1 Q E'
  rw [List.append_nil]
  exact ⟨b, l, ms, vs, G1, ds, rfl, B.at_ t1.fr.inv, fr_off B t1.fr, t1.fr.sub, r1, f.mono (fun d q G' a us H' s Bg g kk nw ha h' r2 g2 => q G' a us H' (t1.trans (Tr.bag B t1.fr s Bg g kk nw)) (.of t1 ha) h' r2 g2 (A.fr t1.fr.inv ha)) (fun _ z => z) q⟩
end
theorem bag_same {b l : Addr} {ms : List Int} {H H' : Hp} (s : Same H H') (B : KW.BagAt b l ms H) : KW.BagAt b l ms H' := by
  obtain ⟨⟨i, r, sd, c, h, hi⟩, hl, nbl⟩ := B
  exact ⟨⟨i, r, sd, c, s _ _ h, hi⟩, s _ _ hl, nbl⟩
theorem bag_put {b l : Addr} {ms : List Int} {H : Hp} (B : KW.BagAt b l ms H) {p : Addr} {o : HO} (n1 : p ≠ b) (n2 : p ≠ l) : KW.BagAt b l ms (upd H p o) := by
  obtain ⟨⟨i, r, s, c, h, hi⟩, hl, nbl⟩ := B
  exact ⟨⟨i, r, s, c, by rw [upd_ne n1.symm]; exact h, hi⟩, by rw [upd_ne n2.symm]; exact hl, nbl⟩
theorem bag_ne {b l : Addr} {ms : List Int} {H : Hp} (B : KW.BagAt b l ms H) {p : Addr} (n : H p = none) : p ≠ b ∧ p ≠ l := by
  obtain ⟨⟨i, r, s, c, h, hi⟩, hl, nbl⟩ := B
  exact ⟨(ne_of_none h n).symm, (ne_of_none hl n).symm⟩
/-- a def that draws -/
def AB (b l : Addr) (ms : List Int) (G0 H0 : Hp) : Am where
  I := fun H => GrowB b H0 H ∧ KW.BagAt b l ms H
  gd := fun a o => a ≠ b ∧ (G0 a = some o ∨ (H0 a = none ∧ ∀ ps, o ≠ .tbl ps) ∨ Fx o)
  nw := fun a => H0 a = none ∧ a ≠ b ∧ a ≠ l
  bg := some b
  mono := fun s h => ⟨fun a o n q => s _ _ (h.1 a o n q), bag_same s h.2⟩
  put := fun h n _ _ => ⟨fun c o ne q => by
    rw [upd_ne (ne_of_none q n.1)]
    exact h.1 _ _ ne q, bag_put h.2 n.2.1 n.2.2⟩
  unl := fun h n _ => ⟨fun c o ne q => by
    rw [upd_ne (ne_of_none q n.1)]
    exact h.1 _ _ ne q, bag_put h.2 n.2.1 n.2.2⟩
  al := fun {H p o} h n nt => by
    have z := bag_ne h.2 n
    refine ⟨z.1, .inr (.inl ⟨?_, nt⟩)⟩
    cases q : H0 p with
    | none => rfl
    | some u => rw [h.1 p u z.1 q] at n; cases n
  fr := fun {H p} h n => by
    have z := bag_ne h.2 n
    refine ⟨?_, z⟩
    cases q : H0 p with
    | none => rfl
    | some u => rw [h.1 p u z.1 q] at n; cases n
  gl := fun n m => ⟨n.2.1, .inr (.inl ⟨n.1, m.nt⟩)⟩
  fx := fun h e f => ⟨fun z => by
    subst z
    obtain ⟨⟨i, r, sd, c, hb, _⟩, _⟩ := h.2
    rw [hb] at e
    cases e
    exact f, .inr (.inr f)⟩
theorem AB.bag {b l : Addr} {ms : List Int} {G0 H0 : Hp} : BagA (AB b l ms G0 H0) b l ms :=
  ⟨rfl, fun h => h.2, fun h s B => ⟨fun a o n q => s _ _ n (h.1 a o n q), B⟩, fun h => h.1, fun h => h.2.1⟩
theorem ok_startB {Ω : Obs} {A : Am} {b : Addr} (e : A.bg = some b) {G H : Hp} {N : List Str} {vs : List V} {ds : List D} (f : Fr A G H) (r : Reps Ω G vs ds) (k : Nat) (hN : N.length = ds.length + 1 + k) : Ok Ω A G (L2.start N (.ref b :: vs)) (.bag :: envOf ds k) H := by
  refine ⟨f, ?_, fun i => ?_, fun i j h => ?_, fun i h ls xss e => ?_⟩
  · unfold L2.start envOf
    simp only [List.length_append, List.length_cons, List.length_map, List.length_replicate, hN, r.length]
    omega
  · cases i with
    | zero => exact ⟨b, e, rfl⟩
    | succ i => exact start_slot k _ r i
  · cases i with
    | zero => cases h
    | succ i => exact absurd h (start_own k ds i)
  · cases i with
    | zero => cases e
    | succ i => exact absurd (show isOwn (get (envOf ds k) i) = true by rw [show get (envOf ds k) i = _ from e]; rfl) (start_own k ds i)
section
variable {Ω : Obs} {N : List Str} {vs : List V} {H : Hp} {Q : VK} {E : XK} {t : TS} {ms : MS}
theorem run_bag {m : MF} (h : spB Ω m vs H Q E) (k : Nat) (hN : N.length = m.n + 1 + k) (hd : ∀ A b l ns, BagA A b l ns → DenS Ω A E t ms) (body : ∀ ds Q, m.wp ds Q (fun _ => False) → ms.wp { nx := fun _ => Q .non, rt := Q } (.bag :: envOf ds k) (fun _ => False)) : t { nx := fun _ H' => Q .non H', rt := Q } (L2.start N vs) H := by
  obtain ⟨b, l, ns, us, G, ds, rfl, B, gb, s, r, w⟩ := h
  have off : ∀ a o, G a = some o → a ≠ b := fun a o q e => by
    subst e
    rw [gb] at q
    cases q
  have f : Fr (AB b l ns G H) G H := ⟨⟨fun _ _ _ q => q, B⟩, s, fun a o q => ⟨off a o q, Or.inl q⟩⟩
  refine hd (AB b l ns G H) b l ns AB.bag G (L2.start N (.ref b :: us)) (.bag :: envOf ds k) H _ _ _ (ok_startB rfl f r k (by rw [m.len w]; exact hN)) (fun _ z => z.elim) ?_ (body ds _ w)
  exact ⟨fun G' σ env H' s' k' q => q G' .non H' k'.fr.inv.1 k'.fr.inv.2 s' k'.fr.sub (fun a o z => (k'.fr.gd a o z).2) .non, fun G' v d H' s' f rv q => q G' v H' f.inv.1 f.inv.2 s' f.sub (fun a o z => (f.gd a o z).2) rv, fun _ _ _ _ _ _ _ _ _ _ _ q => q.elim, fun _ _ _ _ _ _ q => q.elim, fun _ _ _ _ _ _ q => q.elim⟩
end
structure TabA (A : Am) (T : List (Addr × Str)) : Prop where
  at_ : ∀ {H}, A.I H → Tabs T H
  ext : ∀ {H H'}, A.I H → ExtN H H' → Tabs T H' → A.I H'
  gd : ∀ {a o}, A.gd a o → ∀ ps, o ≠ .tbl ps
theorem mut_tbl {o : HO} (m : MutO o) {ps : Array Value} : HO.tbl ps ≠ o := fun e => by
  subst e
  exact m
theorem mut_code {o : HO} (m : MutO o) {c : Addr} {q : Str} : CodeO c q ≠ o := fun e => by
  subst e
  exact m c q rfl
theorem tabs_put0 {T : List (Addr × Str)} {H : Hp} {a : Addr} {o u : HO} (t : Tabs T H) (h : H a = some o) (m1 : ∀ ps, HO.tbl ps ≠ o) (m2 : ∀ c q, CodeO c q ≠ o) : Tabs T (upd H a u) := fun p hp => by
  obtain ⟨ps, h1, h2, h3⟩ := t p hp
  refine ⟨ps, by rw [upd_ne (ne_of h1 h (m1 _))]; exact h1, h2, fun pos cv hc => ?_⟩
  obtain ⟨c, e, hcc⟩ := h3 pos cv hc
  exact ⟨c, e, by rw [upd_ne (ne_of hcc h (m2 _ _))]; exact hcc⟩
theorem tabs_put {T : List (Addr × Str)} {H : Hp} {a : Addr} {o u : HO} (t : Tabs T H) (h : H a = some o) (m : MutO o) : Tabs T (upd H a u) := tabs_put0 t h (fun _ => mut_tbl m) fun _ _ => mut_code m
theorem tabs_unl {T : List (Addr × Str)} {H : Hp} {a : Addr} {o u : HO} {od : Obj} (t : Tabs T H) (h : H a = some (.frz od o)) : Tabs T (upd H a u) := tabs_put0 t h (fun _ => by intro z; cases z) fun _ _ => by intro z; unfold CodeO at z; cases z
theorem tabs_grow {T : List (Addr × Str)} {H H' : Hp} {b : Addr} {xs : List V} (t : Tabs T H) (h : H b = some (.lst xs)) (g : GrowB b H H') : Tabs T H' := fun p hp => by
  obtain ⟨ps, h1, h2, h3⟩ := t p hp
  refine ⟨ps, g _ _ (ne_of h1 h (by intro z; cases z)) h1, h2, fun pos cv hc => ?_⟩
  obtain ⟨c, e, hcc⟩ := h3 pos cv hc
  exact ⟨c, e, g _ _ (ne_of hcc h (by intro z; unfold CodeO at z; cases z)) hcc⟩
theorem bag_ext {b l : Addr} {ms : List Int} {H H' : Hp} (B : KW.BagAt b l ms H) (e : ExtN H H') : KW.BagAt b l ms H' := by
  obtain ⟨⟨i, r, sd, c, h, hi⟩, hl, nbl⟩ := B
  exact ⟨⟨i, r, sd, c, e _ _ h (fun _ => by intro z; cases z), hi⟩, e _ _ hl (fun _ => by intro z; cases z), nbl⟩
def AL (b l : Addr) (ms : List Int) (T : List (Addr × Str)) : Am where
  I := fun H => KW.BagAt b l ms H ∧ Tabs T H
  gd := fun a o => a ≠ b ∧ ∀ ps, o ≠ .tbl ps
  nw := fun a => a ≠ b ∧ a ≠ l
  bg := some b
  mono := fun s h => ⟨bag_same s h.1, h.2.ext s⟩
  put := fun h n q m => ⟨bag_put h.1 n.1 n.2, tabs_put h.2 q m⟩
  unl := fun h n q => ⟨bag_put h.1 n.1 n.2, tabs_unl h.2 q⟩
  al := fun h n nt => ⟨(bag_ne h.1 n).1, nt⟩
  fr := fun h n => bag_ne h.1 n
  gl := fun n m => ⟨n.1, m.nt⟩
  fx := fun h e f => ⟨fun z => by
    subst z
    obtain ⟨⟨i, r, sd, c, hb, _⟩, _⟩ := h.1
    rw [hb] at e
    cases e
    exact f, f.nt⟩
theorem AL.bag {b l : Addr} {ms : List Int} {T : List (Addr × Str)} : BagA (AL b l ms T) b l ms :=
  ⟨rfl, fun h => h.1, fun h s B => ⟨B, by
    obtain ⟨⟨i, r, sd, c, hb, _⟩, _⟩ := h.1
    exact tabs_grow h.2 hb s⟩, fun h => h.1, fun h => h.1⟩
theorem AL.tab {b l : Addr} {ms : List Int} {T : List (Addr × Str)} : TabA (AL b l ms T) T :=
  ⟨fun h => h.2, fun h e t => ⟨bag_ext h.1 e, t⟩, fun h => h.2⟩
theorem Tr.ext {A : Am} {T : List (Addr × Str)} (B : TabA A T) {G H H1 : Hp} (f : Fr A G H) (e : ExtN H H1) (t : Tabs T H1) : Tr A G H G H1 :=
  ⟨⟨B.ext f.inv e t, fun a o q => e _ _ (f.sub _ _ q) (B.gd (f.gd _ _ q)), f.gd⟩, Same.refl _, fun a vs mo h _ g => ⟨e _ _ h mo.nt, g⟩⟩
def Cal (P : Program) (w : World) (K : PySem.W.Frag) (mg : Str → Option Value) (base : Heap) (CX : CXT) (k : Nat) (x : Str) (ps : List Str) (sp : Sp) : Prop :=
  ∃ f fd, FnOk P w K mg base CX k f fd ps sp ∧ Binds K fd ps [] ∧ mg x = some (.ref f) ∧ PySem.W.keepIn K (.ref f) = true
def CalM (P : Program) (w : World) (K : PySem.W.Frag) (mg : Str → Option Value) (base : Heap) (CX : CXT) (k : Nat) (C : Addr) (x : Str) (ps : List Str) (sp : Sp) : Prop :=
  ∃ f fd, FnOk P w K mg base CX k f fd ps sp ∧ Binds K fd ps [] ∧ Meth K C x f
theorem call_tupleFK {X : Cx} {K : PySem.W.Frag} (h : X.K = K) : CallR X (.type "tuple") (KW.rTupleF K) := by
  subst h
  exact KW.call_tupleF
theorem dt_yes {Ω : Obs} {A : Am} {E : XK} : DenT Ω A E tYes (.ret true) := fun G σ env H Q Ex k f q => q G H (.refl k.fr)
open Classical in
/-- G, and what is new in H' or never changes -/
noncomputable def grown (G H H' : Hp) : Hp := fun a => match G a with
  | some o => some o
  | none => match H' a with
    | none => none
    | some o => if (H a = none ∧ ∀ ps, o ≠ .tbl ps) ∨ Fx o then some o else none
theorem grown_sub {G H H' : Hp} : Same G (grown G H H') := fun a o h => by
  unfold grown
  rw [h]
theorem grown_in {G H H' : Hp} (s : Same G H') : Same (grown G H H') H' := fun a o h => by
  unfold grown at h
  cases q : G a with
  | some u =>
    rw [q] at h
    cases h
    exact s _ _ q
  | none =>
    rw [q] at h
    cases r : H' a with
    | none => rw [r] at h; cases h
    | some u =>
      rw [r] at h
      dsimp only at h
      split at h
      · exact h
      · cases h
theorem grown_new {G H H' : Hp} : New G (grown G H H') H := fun a o h => by
  unfold grown at h
  cases q : G a with
  | some u =>
    rw [q] at h
    cases h
    exact .inl rfl
  | none =>
    rw [q] at h
    cases r : H' a with
    | none => rw [r] at h; cases h
    | some u =>
      rw [r] at h
      dsimp only at h
      split at h
      · rename_i z
        cases h
        exact .inr z
      · cases h
theorem grown_at {G H H' : Hp} (s : Same G H') {a : Addr} {o : HO} (h : H' a = some o) (z : (H a = none ∧ ∀ ps, o ≠ .tbl ps) ∨ Fx o) : grown G H H' a = some o := by
  unfold grown
  cases q : G a with
  | some u =>
    have e := s _ _ q
    rw [h] at e
    cases e
    rfl
  | none =>
    rw [h]
    exact if_pos z
theorem grown_fx {G H H' : Hp} (s : Same G H') {a : Addr} {o : HO} (h : H' a = some o) (z : Fx o) : grown G H H' a = some o := grown_at s h (.inr z)
theorem grown_nw {G H H' : Hp} (s : Same G H') {a : Addr} {o : HO} (h : H' a = some o) (n : H a = none) (z : ∀ ps, o ≠ .tbl ps) : grown G H H' a = some o := grown_at s h (.inl ⟨n, z⟩)
/-- without one cell -/
noncomputable def but (G : Hp) (a : Addr) : Hp := open Classical in fun c => if c = a then none else G c
end KD
set_option Elab.async false
set_option linter.all false
set_option maxRecDepth 100000
set_option maxHeartbeats 1000000
namespace KD
open PySem PySem.Spec PyProof.Rows L2
section
variable {items : List D} {g : GD} {mt : M Bool} {me : M D} {envw : Env} {Q : List D → Prop}
/-- [e for x in xs], e by a function -/
theorem lc_map (f : D → D) (h : ∀ (i : Nat) (x : D), items[i]? = some x → g.wp x envw fun env2 => me.wp env2 (fun y => y = f x) (fun _ => False)) (q : Q (items.map f)) :
    ∃ Iv : Nat → List D → Prop, Iv 0 [] ∧ (∀ i x ys, items[i]? = some x → Iv i ys → g.wp x envw fun env2 => (M.ret true).wp env2 (fun b => if b = true then me.wp env2 (fun y => Iv (i + 1) (ys ++ [y])) (fun _ => False) else Iv (i + 1) ys) (fun _ => False)) ∧ ∀ ys, Iv items.length ys → Q ys := by
  refine ⟨fun i ys => ys = (items.take i).map f, rfl, fun i x ys hx e => g.mono (fun env2 q => me.mono (fun y e2 => ?_) q) (h i x hx), fun ys e => ?_⟩
  · show ys ++ [y] = (items.take (i + 1)).map f
    rw [e, e2, List.take_succ, hx, List.map_append]
    rfl
  · rw [show ys = _ from e, List.take_length]
    exact q
/-- [e for x in xs if t] -/
theorem lc_filter (p : D → Bool) (f : D → D) (h : ∀ (i : Nat) (x : D), items[i]? = some x → g.wp x envw fun env2 => mt.wp env2 (fun b => b = p x ∧ (b = true → me.wp env2 (fun y => y = f x) (fun _ => False))) (fun _ => False)) (q : Q ((items.filter p).map f)) :
    ∃ Iv : Nat → List D → Prop, Iv 0 [] ∧ (∀ i x ys, items[i]? = some x → Iv i ys → g.wp x envw fun env2 => mt.wp env2 (fun b => if b = true then me.wp env2 (fun y => Iv (i + 1) (ys ++ [y])) (fun _ => False) else Iv (i + 1) ys) (fun _ => False)) ∧ ∀ ys, Iv items.length ys → Q ys := by
  refine ⟨fun i ys => ys = ((items.take i).filter p).map f, rfl, fun i x ys hx e => g.mono (fun env2 q => mt.mono (fun b e2 => ?_) q) (h i x hx), fun ys e => ?_⟩
  · obtain ⟨eb, hb⟩ := e2
    cases b with
    | true =>
      refine me.mono (fun y e3 => ?_) (hb rfl)
      show ys ++ [y] = ((items.take (i + 1)).filter p).map f
      rw [e, e3, List.take_succ, hx, List.filter_append, List.map_append]
      show _ = _ ++ (([x].filter p).map f)
      rw [List.filter_cons_of_pos eb.symm]
      rfl
    | false =>
      show ys = ((items.take (i + 1)).filter p).map f
      rw [e, List.take_succ, hx, List.filter_append, List.map_append]
      show _ = _ ++ (([x].filter p).map f)
      rw [List.filter_cons_of_neg (by rw [← eb]; decide)]
      simp
  · rw [show ys = _ from e, List.take_length]
    exact q
end
theorem enum_at {xs : List D} {j : Nat} {x : D} (h : (enumD xs)[j]? = some x) : ∃ y, xs[j]? = some y ∧ x = .tup [.int (j : Nat), y] := by
  have lt := (List.getElem?_eq_some_iff.mp h).1
  rw [enumD_len] at lt
  have z := enumD_at (List.getElem?_eq_getElem lt)
  rw [h] at z
  exact ⟨_, List.getElem?_eq_getElem lt, Option.some.inj z⟩
theorem map_at {α : Type} {f : α → D} {l : List α} {j : Nat} {x : D} (h : (l.map f)[j]? = some x) : ∃ y, l[j]? = some y ∧ x = f y := by
  rw [List.getElem?_map] at h
  cases q : l[j]? with
  | none => rw [q] at h; cases h
  | some y => rw [q] at h; exact ⟨y, rfl, (Option.some.inj h).symm⟩
theorem rg_at {n j : Nat} {x : D} (h : ((List.range n).map fun i => D.int ((i : Nat) : Int))[j]? = some x) : j < n ∧ x = .int (j : Nat) := by
  obtain ⟨y, hy, e⟩ := map_at h
  have lt := (List.getElem?_eq_some_iff.mp hy).1
  rw [List.length_range] at lt
  rw [List.getElem?_range lt] at hy
  cases hy
  exact ⟨lt, e⟩
theorem at_nat {xs : List D} {j : Nat} {d : D} (h : xs[j]? = some d) : atI xs ((j : Nat) : Int) = some d := atI_nat h
theorem at_map {α : Type} {f : α → D} {l : List α} {j : Nat} {y : α} (h : l[j]? = some y) : atI (l.map f) ((j : Nat) : Int) = some (f y) := atI_nat (by rw [List.getElem?_map, h]; rfl)
theorem scls_ints : ∀ r : List Int, scls (r.map D.int) = some (r.map V.int)
  | [] => rfl
  | i :: r => by
    show (match scl (D.int i), scls (r.map D.int) with | some v, some vs => some (v :: vs) | _, _ => none) = _
    rw [scls_ints r]
    rfl
theorem flat_ints : ∀ r : List Int, (r.map V.int).all flatV = true
  | [] => rfl
  | i :: r => by
    rw [List.map_cons, List.all_cons, flat_ints r]
    rfl
theorem inV_ints (i : Int) : ∀ r : List Int, inV (.int i) (r.map V.int) = decide (i ∈ r)
  | [] => rfl
  | j :: r => by
    have ih := inV_ints i r
    unfold inV at ih ⊢
    rw [List.map_cons, List.any_cons, ih]
    show (eqV (V.int j) (V.int i) || decide (i ∈ r)) = _
    have e : eqV (V.int j) (V.int i) = decide (j = i) := by
      show (j == i) = _
      by_cases h : j = i
      · subst h; simp
      · simp [h]
    rw [e]
    by_cases h : j = i
    · subst h
      simp
    · have h' : ¬ i = j := fun z => h z.symm
      simp [h, h']
/-- no object within, of so little depth -/
def pl : Nat → D → Prop
  | _, .int _ => True
  | _, .bl _ => True
  | _, .non => True
  | _, .str x => PyData.strOk x = true
  | k + 1, .tup xs => ∀ x ∈ xs, pl k x
  | k + 1, .ftup xs => ∀ x ∈ xs, pl k x
  | k + 1, .lst xs => ∀ x ∈ xs, pl k x
  | _, _ => False
theorem pls_facts {k : Nat} (ih : ∀ d, pl k d → flat d = true ∧ (py d).canLay0 = true ∧ (py d).depth ≤ k) : ∀ xs : List D, (∀ x ∈ xs, pl k x) → flats xs = true ∧ PyData.canLayAll0 (pys xs) = true ∧ PyData.depthAll (pys xs) ≤ k
  | [], _ => ⟨rfl, by simp [pys, PyData.canLayAll0], by simp [pys, PyData.depthAll]⟩
  | x :: xs, h => by
    obtain ⟨a, b, c⟩ := ih x (h x List.mem_cons_self)
    obtain ⟨a', b', c'⟩ := pls_facts ih xs fun y hy => h y (List.mem_cons_of_mem _ hy)
    refine ⟨by simp [flats, a, a'], by simp [pys, PyData.canLayAll0, b, b'], ?_⟩
    simp only [pys, PyData.depthAll]
    omega
theorem pl_facts : ∀ (k : Nat) (d : D), pl k d → flat d = true ∧ (py d).canLay0 = true ∧ (py d).depth ≤ k
  | k, .int _, _ => by simp [flat, py, PyData.canLay0, PyData.depth]
  | k, .bl _, _ => by simp [flat, py, PyData.canLay0, PyData.depth]
  | k, .non, _ => by simp [flat, py, PyData.canLay0, PyData.depth]
  | k, .str x, h => by
    have h' : PyData.strOk x = true := by cases k <;> exact h
    simp [flat, py, PyData.canLay0, PyData.depth, h']
  | k + 1, .tup xs, h => by
    obtain ⟨a, b, c⟩ := pls_facts (pl_facts k) xs h
    refine ⟨by simp [flat, a], by simp [py, PyData.canLay0, b], ?_⟩
    simp only [py, PyData.depth]
    omega
  | k + 1, .ftup xs, h => by
    obtain ⟨a, b, c⟩ := pls_facts (pl_facts k) xs h
    refine ⟨by simp [flat, a], by simp [py, PyData.canLay0, b], ?_⟩
    simp only [py, PyData.depth]
    omega
  | k + 1, .lst xs, h => by
    obtain ⟨a, b, c⟩ := pls_facts (pl_facts k) xs h
    refine ⟨by simp [flat, a], by simp [py, PyData.canLay0, b], ?_⟩
    simp only [py, PyData.depth]
    omega
  | 0, .tup _, h => h.elim
  | 0, .ftup _, h => h.elim
  | 0, .lst _, h => h.elim
  | 0, .obj _ _, h => h.elim
  | _ + 1, .obj _ _, h => h.elim
  | 0, .dk _, h => h.elim
  | _ + 1, .dk _, h => h.elim
  | 0, .dt _, h => h.elim
  | _ + 1, .dt _, h => h.elim
  | 0, .ftb _, h => h.elim
  | _ + 1, .ftb _, h => h.elim
  | 0, .fkb _, h => h.elim
  | _ + 1, .fkb _, h => h.elim
  | 0, .ndb _, h => h.elim
  | _ + 1, .ndb _, h => h.elim
theorem pl_tup2 {k : Nat} {x y : D} (hx : pl k x) (hy : pl k y) : pl (k + 1) (.tup [x, y]) := fun d hd => by
  rcases List.mem_cons.mp hd with rfl | hd
  · exact hx
  · rw [List.mem_singleton.mp hd]
    exact hy
theorem pl_int {k : Nat} {i : Int} : pl k (.int i) := by cases k <;> exact trivial
theorem pl_non {k : Nat} : pl k .non := by cases k <;> exact trivial
theorem pl_map {α : Type} {k : Nat} {f : α → D} {l : List α} (h : ∀ a ∈ l, pl k (f a)) : ∀ x ∈ l.map f, pl k x := fun x hx => by
  obtain ⟨a, ha, rfl⟩ := List.mem_map.mp hx
  exact h a ha
theorem cut_take (xs : List D) (k : Nat) : cutD xs none (some (k : Int)) = xs.take k := by
  unfold cutD
  rw [HT.sIx_none, HT.sIx_nat, List.drop_zero, Nat.sub_zero]
  apply List.ext_getElem?
  intro j
  rw [List.getElem?_take, List.getElem?_take]
  by_cases h : j < k
  · rw [if_pos h]
    by_cases h2 : j < xs.length
    · rw [if_pos (by omega)]
    · rw [if_neg (by omega), List.getElem?_eq_none (by omega)]
  · rw [if_neg h, if_neg (by omega)]
end KD
set_option Elab.async false
set_option linter.all false
set_option maxRecDepth 100000
set_option maxHeartbeats 1000000
namespace KD
open PySem PySem.Spec PyProof.Rows L2
theorem sorted_one : ∀ {l m : List Int}, l.Perm m → l.Pairwise (· ≤ ·) → m.Pairwise (· ≤ ·) → l = m
  | [], m, p, _, _ => (List.Perm.nil_eq p)
  | x :: l, [], p, _, _ => absurd p.length_eq (by simp)
  | x :: l, y :: m, p, hl, hm => by
    have h1 := List.pairwise_cons.mp hl
    have h2 := List.pairwise_cons.mp hm
    have e : x = y := by
      have a : x ∈ y :: m := p.mem_iff.mp List.mem_cons_self
      have b : y ∈ x :: l := p.mem_iff.mpr List.mem_cons_self
      rcases List.mem_cons.mp a with a | a
      · exact a
      · rcases List.mem_cons.mp b with b | b
        · exact b.symm
        · have := h2.1 x a
          have := h1.1 y b
          omega
    subst e
    rw [sorted_one (List.Perm.cons_inv p) h1.2 h2.2]
def isort (l : List Int) : List Int := l.mergeSort (fun a b => decide (a ≤ b))
theorem isort_perm (l : List Int) : (isort l).Perm l := List.mergeSort_perm l _
theorem isort_le (l : List Int) : (isort l).Pairwise (· ≤ ·) := by
  have z := List.pairwise_mergeSort (le := fun a b : Int => decide (a ≤ b)) (by intro a b c; simp; omega) (by intro a b; simp; omega) l
  exact z.imp fun h => of_decide_eq_true h
theorem isort_of {l m : List Int} (p : m.Perm l) (h : m.Pairwise (· ≤ ·)) : m = isort l := sorted_one (p.trans (isort_perm l).symm) h (isort_le l)
theorem isort_eq {l m : List Int} (p : l.Perm m) : isort l = isort m := sorted_one (((isort_perm l).trans p).trans (isort_perm m).symm) (isort_le l) (isort_le m)
theorem isort_iff {l m : List Int} : isort l = isort m ↔ l.Perm m := ⟨fun e => (isort_perm l).symm.trans (e ▸ isort_perm m), isort_eq⟩
section
variable {Ω : Obs} {A : Am} {E : XK} {ta tb tc : TE} {ma mb mc : M D} {t : TA} {n : Nat} {m : M (List D)} {K : PySem.W.Frag}
theorem reps_intsG {G : Hp} : ∀ {vs : List V} {l : List Int}, Reps Ω G vs (l.map D.int) → vs = l.map V.int
  | [], [], _ => rfl
  | _ :: _, [], h => by cases h
  | [], _ :: _, h => by cases h
  | _ :: _, _ :: l, .cons h r => by
    cases h
    rw [reps_intsG r]
    rfl
theorem ints_repsG {G : Hp} : ∀ l : List Int, Reps Ω G (l.map V.int) (l.map D.int)
  | [] => .nil
  | _ :: l => .cons (.int _) (ints_repsG l)
def gSortI : List D → M (List D) := fun ds => ⟨fun _ Q _ => ∃ ns : List Int, ds = [.lst (ns.map .int)] ∧ Q ((isort ns).map .int), fun h _ ⟨ns, a, q⟩ => ⟨ns, a, h _ q⟩⟩
theorem c_sortI : CallO Ω E (rSortedI K) gSortI := fun A G H vs ds Q env Ex fr f r q => by
  obtain ⟨ns, rfl, q⟩ := q
  obtain ⟨v, rfl, rv⟩ := r.one
  obtain ⟨a, us, rfl, ha, ru⟩ := rv.lstv rfl
  have eu := reps_intsG ru
  subst eu
  refine ⟨a, ns, rfl, SqL.of (fr.sub _ _ ha), fun ns' p pm pw hp => ?_⟩
  rw [isort_of pm pw]
  exact q _ _ _ _ (Tr.allocOwn fr hp) (.of (.refl fr) hp) upd_same (ints_repsG _) (fr.sub.free hp) (A.fr fr.inv hp)
/-- pairs of numbers -/
def ipD (p : Int × Int) : D := .tup [.int p.1, .int p.2]
def lexLe (p q : Int × Int) : Prop := p.1 < q.1 ∨ (p.1 = q.1 ∧ p.2 ≤ q.2)
open Classical in
/-- the pair that stands at a place -/
noncomputable def keyAt (H : Hp) (v : V) : Int × Int := if h : ∃ p : Int × Int, ∃ t, v = V.ref t ∧ H t = some (.tup [.int p.1, .int p.2]) then h.choose else (0, 0)
theorem keyAt_eq {H : Hp} {t : Addr} {p : Int × Int} (h : H t = some (.tup [.int p.1, .int p.2])) : keyAt H (.ref t) = p := by
  have ex : ∃ p : Int × Int, ∃ t', V.ref t = V.ref t' ∧ H t' = some (.tup [.int p.1, .int p.2]) := ⟨p, t, rfl, h⟩
  unfold keyAt
  rw [dif_pos ex]
  obtain ⟨t', e, h'⟩ := ex.choose_spec
  injection e with e
  subst e
  rw [h] at h'
  injection h' with h'
  injection h' with h'
  injection h' with e1 e2
  injection e2 with e2 _
  injection e1 with e1
  injection e2 with e2
  exact (Prod.ext e1 e2).symm
theorem rep_ip {G : Hp} {v : V} {p : Int × Int} (h : Rep Ω G v (ipD p)) : ∃ t, v = .ref t ∧ G t = some (.tup [.int p.1, .int p.2]) := by
  cases h with
  | tup h r =>
    cases r with
    | cons h1 r =>
      cases r with
      | cons h2 r =>
        cases h1; cases h2; cases r
        exact ⟨_, rfl, h⟩
theorem reps_keys {G H : Hp} (s : Same G H) : ∀ {vs : List V} {qs : List (Int × Int)}, Reps Ω G vs (qs.map ipD) → qs = vs.map (keyAt H)
  | [], [], _ => rfl
  | _ :: _, [], h => by cases h
  | [], _ :: _, h => by cases h
  | v :: _, q :: qs, .cons h r => by
    obtain ⟨t, rfl, ht⟩ := rep_ip h
    rw [List.map_cons, ← reps_keys s r, keyAt_eq (s _ _ ht)]
theorem keys_reps {G H : Hp} (s : Same G H) : ∀ {vs : List V}, (∀ v ∈ vs, ∃ t p, v = .ref t ∧ G t = some (.tup [.int (p : Int × Int).1, .int p.2])) → Reps Ω G vs ((vs.map (keyAt H)).map ipD)
  | [], _ => .nil
  | v :: vs, h => by
    obtain ⟨t, p, rfl, ht⟩ := h v List.mem_cons_self
    refine .cons ?_ (keys_reps s fun w hw => h w (List.mem_cons_of_mem _ hw))
    rw [keyAt_eq (s _ _ ht)]
    exact .tup ht (.cons (.int _) (.cons (.int _) .nil))
def valD (kvs : List (L2.Key × D)) (k : L2.Key) : Option D := (kvs.find? fun kv => decide (kv.1 = k)).map (·.2)
def putD (kvs : List (L2.Key × D)) (k : L2.Key) (v : D) : List (L2.Key × D) :=
  if (kvs.any fun kv => decide (kv.1 = k)) = true then kvs.map (fun kv => if kv.1 = k then (kv.1, v) else kv) else kvs ++ [(k, v)]
theorem RepK.len {G : Hp} : ∀ {vs : List (L2.Key × V)} {xs : List (L2.Key × D)}, RepK Ω G vs xs → vs.length = xs.length
  | _, _, .nil => rfl
  | _, _, .cons _ r => by rw [List.length_cons, List.length_cons, r.len]
theorem RepK.val {G : Hp} (k : L2.Key) : ∀ {vs : List (L2.Key × V)} {xs : List (L2.Key × D)}, RepK Ω G vs xs → (valV vs k = none ∧ valD xs k = none) ∨ ∃ v x, valV vs k = some v ∧ valD xs k = some x ∧ Rep Ω G v x
  | _, _, .nil => .inl ⟨rfl, rfl⟩
  | _, _, .cons (k := k') (v := v) (x := x) h r => by
    unfold valV valD
    by_cases e : k' = k
    · rw [List.find?_cons_of_pos (by simp [e]), List.find?_cons_of_pos (by simp [e])]
      exact .inr ⟨v, x, rfl, rfl, h⟩
    · rw [List.find?_cons_of_neg (by simp [e]), List.find?_cons_of_neg (by simp [e])]
      exact RepK.val k r
theorem RepK.any {G : Hp} (k : L2.Key) : ∀ {vs : List (L2.Key × V)} {xs : List (L2.Key × D)}, RepK Ω G vs xs → (vs.any fun kv => decide (kv.1 = k)) = xs.any fun kv => decide (kv.1 = k)
  | _, _, .nil => rfl
  | _, _, .cons h r => by rw [List.any_cons, List.any_cons, RepK.any k r]
theorem RepK.app {G : Hp} {k : L2.Key} {v : V} {x : D} (h : Rep Ω G v x) : ∀ {vs : List (L2.Key × V)} {xs : List (L2.Key × D)}, RepK Ω G vs xs → RepK Ω G (vs ++ [(k, v)]) (xs ++ [(k, x)])
  | _, _, .nil => .cons h .nil
  | _, _, .cons h' r => .cons h' (RepK.app h r)
theorem RepK.turn {G : Hp} {k : L2.Key} {v : V} {x : D} (h : Rep Ω G v x) : ∀ {vs : List (L2.Key × V)} {xs : List (L2.Key × D)}, RepK Ω G vs xs → RepK Ω G (vs.map fun kv => if kv.1 = k then (kv.1, v) else kv) (xs.map fun kv => if kv.1 = k then (kv.1, x) else kv)
  | _, _, .nil => .nil
  | _, _, .cons (k := k') h' r => by
    rw [List.map_cons, List.map_cons]
    by_cases e : k' = k
    · rw [if_pos e, if_pos e]
      exact .cons h (RepK.turn h r)
    · rw [if_neg e, if_neg e]
      exact .cons h' (RepK.turn h r)
theorem RepK.put {G : Hp} {k : L2.Key} {v : V} {x : D} (h : Rep Ω G v x) {vs : List (L2.Key × V)} {xs : List (L2.Key × D)} (r : RepK Ω G vs xs) : RepK Ω G (putK vs k v) (putD xs k x) := by
  unfold putK putD
  rw [r.any k]
  split
  · exact r.turn h
  · exact r.app h
end
theorem loop_it {J : It} {n : Nat} {Gd : Hp → Prop} {Y : Nat → Hp → V → Hp → Prop} (w : Walk J n Gd Y) {B : V → Hp → (Hp → Prop) → Prop} {H1 : Hp} {Qd : Hp → Prop} (Pv : Nat → Hp → Prop) (h0 : Pv 0 H1) (hG : ∀ i H, i ≤ n → Pv i H → Gd H)
    (hs : ∀ i x H H', i < n → Pv i H → Y i H x H' → B x H' (Pv (i + 1))) (hd : ∀ H, Pv n H → Qd H) :
    ∃ W : Nat → Nat → Hp → Prop, (∃ m, W 0 m H1) ∧ ∀ i m H, W i m H → (J.stop i H ∧ Qd H) ∨ (J.go i H ∧ ∃ Nx : Hp → Prop, (∀ H', Nx H' → ∃ m', m' < m ∧ W (i + 1) m' H') ∧ ∀ x H', J.yld i H x H' → B x H' Nx) := by
  refine ⟨fun i m H => m = n - i ∧ i ≤ n ∧ Pv i H, ⟨n, by simp, Nat.zero_le _, h0⟩, ?_⟩
  rintro i m H ⟨rfl, hi, p⟩
  have q := hG i H hi p
  by_cases hlt : i < n
  · exact .inr ⟨w.goes i H hlt q, Pv (i + 1), fun H' p' => ⟨n - (i + 1), by omega, rfl, hlt, p'⟩, fun x H' y => hs i x H H' hlt p (w.yields i H x H' hlt q y)⟩
  · have e : i = n := by omega
    subst e
    exact .inl ⟨w.stops H q, hd H p⟩
theorem wipe_wipe {τ : L2.St} {vs : List Nat} : ∀ us : List Nat, (∀ i ∈ us, i ∈ vs) → L2.wipe (L2.wipe τ us) vs = L2.wipe τ vs
  | [], _ => rfl
  | u :: us, hu => by
    show L2.wipe ((L2.wipe τ us).set u none) vs = _
    rw [wipe_set (hu u List.mem_cons_self)]
    exact wipe_wipe us fun i hi => hu i (List.mem_cons_of_mem _ hi)
section
variable {Ω : Obs} {A : Am} {E : XK} {K : PySem.W.Frag}
theorem OwnSub.wipe {σ : L2.St} {env : Env} : ∀ vs : List Nat, OwnSub σ env (L2.wipe σ vs) (wipeE env vs)
  | [] => .refl _ _
  | _ :: vs => (OwnSub.wipe vs).trans (.put rfl)
/-- a list that no slot has grows -/
theorem Ok.grow {G H : Hp} {σ : L2.St} {env : Env} (k : Ok Ω A G σ env H) {L : Addr} {us ws : List V} (far : ∀ j, isOwn (get env j) = true → sl σ j ≠ some (.ref L)) (farI : ∀ j, L ∉ inE (get env j)) (h : H L = some (.lst us)) (g : G L = none) (nL : A.nw L) : Ok Ω A G σ env (upd H L (.lst ws)) := by
  have other : ∀ j, isOwn (get env j) = true → SlotO Ω A G H (sl σ j) (get env j) → SlotO Ω A G (upd H L (.lst ws)) (sl σ j) (get env j) := fun j wj z => by
    obtain ⟨b, o', e1, h1, r1, g1, n1⟩ := z
    have nb : b ≠ L := fun eb => by
      subst eb
      exact far j wj e1
    exact ⟨b, o', e1, by rw [upd_ne nb]; exact h1, r1, g1, n1⟩
  refine ⟨⟨A.put k.fr.inv nL h trivial, fun b o q => ?_, k.fr.gd⟩, k.len, fun j => (k.slot j).to (Same.refl _) (other j), k.dist, fun j h' ls xss e => ?_⟩
  · by_cases eb : b = L
    · subst eb
      rw [g] at q
      cases q
    · rw [upd_ne eb]
      exact k.fr.sub _ _ q
  · have z := k.inn j h' ls xss e
    refine ⟨z.there.to (Same.refl _) fun l hl us h1 _ g1 => ⟨?_, g1⟩, z.nodup, z.heads, z.others⟩
    rw [upd_ne (fun eb => farI j (by rw [e, ← eb]; exact hl))]
    exact h1
end
section
variable {X : Cx} {K : PySem.W.Frag}
theorem cr_sortedIK (h : X.K = K) : CallR X (.builtin "sorted") (rSortedI K) := by
  subst h
  exact cr_sortedI
end
section
variable {Ω : Obs} {A : Am} {E : XK} {ta tb tc : TE} {ma mb mc : M D} {t : TA} {n : Nat} {m : M (List D)} {K : PySem.W.Frag}
/-- xs[k] = e -/
theorem ds_setAt {i : Nat} {te ti : TE} {me mi : M D} (he : Den Ω A E te me) (hi : Den Ω A E ti mi) : DenS Ω A E (tAsg te (gSub (tVar i) ti rSetL)) (.setAt i me mi) := fun G σ env H e ed Ex k f l ⟨xs, hx, q⟩ =>
  he G σ env H _ Ex k f.e (me.mono (fun x q G1 v1 H1 t1 r1 => by
    obtain ⟨a, vs, hs, ha, ru, g, nw⟩ := k.own hx
    refine ⟨_, hs, hi G1 σ env H1 _ Ex (k.tr t1) (f.e.tr t1) (mi.mono (fun d q G2 v2 H2 t2 r2 => ?_) q)⟩
    obtain ⟨j, rfl, lt, q⟩ := q
    cases r2
    have t12 := t1.trans t2
    have z := t12.own a (.lst vs) trivial ha nw g
    have lv : vs.length = xs.length := ru.length
    refine ⟨a, vs, j, j, rfl, rfl, z.1, ?_, ?_⟩
    · unfold ixN
      rw [if_pos (by omega), if_pos (by omega), Int.toNat_natCast]
    · exact l.nx G2 σ _ _ t12.sub ((k.tr t12).turn hx hs ((ru.mono t12.sub).set (r1.mono t2.sub) j)) q) q)
/-- a tuple and a tuple -/
def gCatT (x y : D) : M D := ⟨fun _ Q _ => ∃ xs ys, asTup x = some xs ∧ asTup y = some ys ∧ xs ≠ [] ∧ ys ≠ [] ∧ xs.length + ys.length ≤ 1000000 ∧ Q (.tup (xs ++ ys)), fun h _ ⟨xs, ys, a, b, c, d, e, q⟩ => ⟨xs, ys, a, b, c, d, e, h _ q⟩⟩
theorem op_catTd : OpD Ω (rCatT K) gCatT := fun A G H x y dx dy Q env Ex fr rx ry q => by
  obtain ⟨xs, ys, ex, ey, nx, ny, c, q⟩ := q
  obtain ⟨a, us, rfl, h, ru⟩ := rx.tupv (K := K) ex
  obtain ⟨b, ws, rfl, h2, rw2⟩ := ry.tupv (K := K) ey
  have nu : us ≠ [] := fun e => by subst e; cases ru; exact nx rfl
  have nv : ws ≠ [] := fun e => by subst e; cases rw2; exact ny rfl
  refine ⟨a, b, us, ws, rfl, rfl, sqT_same fr.sub h, sqT_same fr.sub h2, nu, by rw [sizeLine_eq, ru.length, rw2.length]; omega, fun e => absurd e nv, fun _ p hp => ?_⟩
  have t2 := Tr.alloc fr (o := .tup (us ++ ws)) hp (fun _ => by intro z; cases z)
  exact q _ _ _ t2 (.tup upd_same ((Reps.app rw2 ru).mono t2.sub))
end
end KD
set_option Elab.async false
set_option maxRecDepth 100000
namespace KW
def sm {α : Type} (xs : List α) (f : α → Nat) : Nat := (xs.map f).sum
theorem sm_nil {α : Type} (f : α → Nat) : sm [] f = 0 := rfl
theorem sm_cons {α : Type} (x : α) (xs : List α) (f : α → Nat) : sm (x :: xs) f = f x + sm xs f := by
  unfold sm
  rw [List.map_cons, List.sum_cons]
theorem sm_app {α : Type} (f : α → Nat) : ∀ xs ys : List α, sm (xs ++ ys) f = sm xs f + sm ys f
  | [], ys => by rw [List.nil_append, sm_nil, Nat.zero_add]
  | x :: xs, ys => by rw [List.cons_append, sm_cons, sm_cons, sm_app f xs ys, Nat.add_assoc]
theorem sm_congr {α : Type} {f g : α → Nat} : ∀ {xs : List α}, (∀ x ∈ xs, f x = g x) → sm xs f = sm xs g
  | [], _ => rfl
  | x :: xs, h => by rw [sm_cons, sm_cons, h x List.mem_cons_self, sm_congr fun y hy => h y (List.mem_cons_of_mem _ hy)]
theorem sm_zero {α : Type} {f : α → Nat} {xs : List α} (h : ∀ x ∈ xs, f x = 0) : sm xs f = 0 := by
  rw [sm_congr (g := fun _ => 0) h]
  induction xs with
  | nil => rfl
  | cons x xs ih => rw [sm_cons, ih fun y hy => h y (List.mem_cons_of_mem _ hy)]
theorem sm_add {α : Type} (f g : α → Nat) : ∀ xs : List α, sm xs (fun x => f x + g x) = sm xs f + sm xs g
  | [] => rfl
  | x :: xs => by
    rw [sm_cons, sm_cons, sm_cons, sm_add f g xs]
    omega
theorem sm_swap {α β : Type} (f : α → β → Nat) (ys : List β) : ∀ xs : List α, sm xs (fun x => sm ys (f x)) = sm ys fun y => sm xs fun x => f x y
  | [] => by
    rw [sm_nil]
    exact (sm_zero fun _ _ => rfl).symm
  | x :: xs => by
    rw [sm_cons, sm_swap f ys xs, ← sm_add]
    exact sm_congr fun y _ => (sm_cons x xs fun x => f x y).symm
theorem sm_map {α β : Type} (g : α → β) (f : β → Nat) (xs : List α) : sm (xs.map g) f = sm xs fun x => f (g x) := by
  unfold sm
  rw [List.map_map]
  rfl
theorem sm_flat {α β : Type} (g : α → List β) (f : β → Nat) : ∀ xs : List α, sm (xs.flatMap g) f = sm xs fun x => sm (g x) f
  | [] => rfl
  | x :: xs => by rw [List.flatMap_cons, sm_app, sm_cons, sm_flat g f xs]
/-- the one that is i -/
theorem sm_one (f : Nat → Nat) {i : Nat} : ∀ {n : Nat}, sm (List.range n) (fun j => if j = i then f j else 0) = if i < n then f i else 0
  | 0 => by
    rw [if_neg (Nat.not_lt_zero i)]
    rfl
  | n + 1 => by
    rw [List.range_succ, sm_app, sm_one f (n := n), sm_cons, sm_nil]
    by_cases h : n = i
    · subst h
      rw [if_neg (Nat.lt_irrefl n), if_pos rfl, if_pos (Nat.lt_succ_self n)]
      omega
    · rw [if_neg h]
      by_cases h2 : i < n
      · rw [if_pos h2, if_pos (by omega)]
        rfl
      · rw [if_neg h2, if_neg (by omega)]
/-- a count for each room, one arrow on -/
def nxt (ps : List (Nat × Nat)) (c : Nat → Nat) (j : Nat) : Nat := sm ps fun p => if p.2 = j then c p.1 else 0
def ways (ps : List (Nat × Nat)) : Nat → Nat → Nat → Nat
  | 0, i => fun j => if j = i then 1 else 0
  | k + 1, i => nxt ps (ways ps k i)
/-- the arrows behind arrow a -/
def onOf (ps : List (Nat × Nat)) (a : Nat) : List Nat := idxs (ps.map (·.1)) (ps.getD a (0, 0)).2 0
def rowsF (ps : List (Nat × Nat)) : Nat → List (List Nat)
  | 0 => (List.range ps.length).map fun a => [a]
  | k + 1 => (rowsF ps k).flatMap fun r => (onOf ps (r.getLastD 0)).map fun a => r ++ [a]
/-- the numbers of a list with their places, summed -/
theorem sm_idxs {α : Type} (d : α) (f : α → Nat) (key : α → Nat) (r : Nat) : ∀ (ps : List α) (pre : List α), sm (idxs (ps.map key) r pre.length) (fun a => f ((pre ++ ps).getD a d)) = sm ps fun p => if key p = r then f p else 0
  | [], pre => rfl
  | p :: ps, pre => by
    have ih := sm_idxs d f key r ps (pre ++ [p])
    rw [List.append_assoc, List.length_append] at ih
    rw [sm_cons, ← ih, List.map_cons]
    show sm (if key p = r then pre.length :: idxs (ps.map key) r (pre.length + 1) else idxs (ps.map key) r (pre.length + 1)) _ = _
    have e : (pre ++ p :: ps).getD pre.length d = p := by simp [List.getD_eq_getElem?_getD]
    split
    · rw [sm_cons, e]
      rfl
    · rw [Nat.zero_add]
      rfl
theorem sm_idxs0 {α : Type} (d : α) (f : α → Nat) (key : α → Nat) (r : Nat) (ps : List α) : sm (idxs (ps.map key) r 0) (fun a => f (ps.getD a d)) = sm ps fun p => if key p = r then f p else 0 := sm_idxs d f key r ps []
def end_ (ps : List (Nat × Nat)) (r : List Nat) : Nat := (ps.getD (r.getLastD 0) (0, 0)).2
theorem rowsF_ne {ps : List (Nat × Nat)} : ∀ {k : Nat} {r : List Nat}, r ∈ rowsF ps k → r ≠ []
  | 0, r, h => by
    obtain ⟨a, _, e⟩ := List.mem_map.mp h
    rw [← e]
    exact List.cons_ne_nil _ _
  | k + 1, r, h => by
    obtain ⟨q, _, h2⟩ := List.mem_flatMap.mp h
    obtain ⟨a, _, e⟩ := List.mem_map.mp h2
    rw [← e]
    simp
end KW
set_option Elab.async false
set_option maxRecDepth 100000
namespace KW
open PySem PySem.Spec PyProof.Rows L2
def topS (i : Nat) : Stmt := PySem.Challenge.pw_aheadfold_k40_namings_of_rooms_of_two_we.main.body.getD i (.Pass ⟨0, 0, 0, 0⟩)
abbrev sBag : Stmt := topS 27
abbrev sPull : Stmt := topS 28
theorem cut63 (ns : List Int) : cutV (ns.map V.int) none (some 63) = (ns.take 63).map V.int := by
  have e : cutV (ns.map V.int) none (some ((63 : Nat) : Int)) = (ns.take 63).map V.int := by
    unfold cutV
    rw [HT.sIx_none, HT.sIx_nat, List.length_map, List.drop_zero, Nat.sub_zero, ← List.map_take]
    congr 1
    rw [List.take_eq_take_iff]
    omega
  exact e
def spBag (K : PySem.W.Frag) : Sp := fun vs H Q _ => ∃ (a : Addr) (ns : List Int), vs = [.ref a] ∧ SqL K H a (ns.map V.int) ∧
  ∀ (H' : Hp) (b l : Addr), Same H H' → H b = none → H l = none → BagAt b l (ns.take 63) H' → Q (.ref b) H'
def spPull : Sp := fun vs H Q _ => ∃ (b l : Addr) (ns : List Int) (m : Int), vs = [.ref b, .int m] ∧ BagAt b l ns H ∧ 0 < m ∧ m < 2 ^ 100 ∧
  ∀ (H' : Hp) (r : Int), 0 ≤ r → r < m → Off b H H' → BagAt b l ns H' → Q (.int r) H'
section
variable {P : Program} {w : World} {K : PySem.W.Frag} {mg : Str → Option Value} {base : Heap}
theorem scBag : FnScope ["_law_script", "_law_seed", "_law_cell"] ["_law_script"] (defScope sBag) := ⟨rfl, rfl, rfl, by decide +kernel, rfl, by decide +kernel, by decide +kernel⟩
theorem ok_bag {f : Addr} {fd : FuncData} (F : Fun K "_law_bag" "_law_bag" sBag f fd) (mL : mg "list" = none) : FnOk P w K mg base CX0 1 f fd ["_law_script"] (spBag K) := by
  refine F.ok scBag (fun vs H Q E h => ?_) (fun cdv A outer s H vs Q E hr h => ?_)
  · obtain ⟨a, ns, rfl, _⟩ := h
    rfl
  · obtain ⟨a, ns, rfl, hS, k⟩ := h
    refine ⟨_, pss_cons (ps_set (i := 1) scBag.nd rfl (Or.inl rfl) pe_int)
      (pss_cons (ps_for PassesOwn.never rfl (pi_list (pe_slice sl_list (pv 0) po_none (po_some pe_int))) (pg_name (i := 2) scBag.nd rfl (Or.inl rfl))
        (pss_one (ps_set (i := 1) scBag.nd rfl (Or.inl rfl) (pe_op op_mod (pe_op op_add (pe_op op_add (pe_op op_mul (pv 1) pe_int) (pv 2)) pe_int) pe_int))))
      (pss_one (ps_ret (pe_lst (pa_cons (pe_callTy call_list_of (by rfl) mL (by decide +kernel) (pa_cons (pe_slice sl_list (pv 0) po_none (po_some pe_int)) pa_nil))
        (pa_cons pe_int (pa_cons pe_int (pa_cons (pv 1) (pa_cons pe_int pa_nil))))))))), ?_⟩
    refine ⟨_, rfl, 63, rfl, a, _, rfl, hS, fun p hp => ?_⟩
    have hS1 : Same H (upd H p (.lst (cutV (ns.map V.int) none (some 63)))) := fun b o e => by
      rw [upd_ne (ne_of_none e hp)]
      exact e
    refine ⟨p, rfl, ⟨_, SqL.of upd_same⟩, for_list (K := K) (a := p) (xs := (ns.take 63).map V.int) (fun i σ H' => ∃ (z : Int) (v : Option V), σ = [some (.ref a), some (.int z), v] ∧ H' = upd H p (.lst (cutV (ns.map V.int) none (some 63))))
      ⟨53, none, rfl, rfl⟩ (fun i σ H' _ ⟨_, _, _, e⟩ => ?_) ?_ ?_⟩
    · rw [e, cut63]
      exact SqL.of upd_same
    · rintro i y σ H' hi ⟨z, v, rfl, rfl⟩
      obtain ⟨u, rfl⟩ : ∃ u, y = V.int u := by
        rw [List.getElem?_map] at hi
        cases e : (ns.take 63)[i]? with
        | none =>
          rw [e] at hi
          cases hi
        | some u =>
          rw [e] at hi
          exact ⟨u, (Option.some.inj hi).symm⟩
      refine ⟨_, rfl, _, _, rfl, rfl, .inr ⟨by decide, by decide⟩, _, rfl, _, _, rfl, rfl, _, _, rfl, rfl, _, _, rfl, rfl, (by show (0 : Int) < 2147483629; decide), ?_⟩
      exact ⟨_, _, rfl, rfl⟩
    · rintro σ H' ⟨z, v, rfl, rfl⟩
      refine ⟨_, rfl, 63, rfl, a, _, rfl, hS1.seq hS, fun p2 hp2 => ?_⟩
      refine ⟨p2, _, rfl, .inl (SqL.of upd_same), fun l hl => ?_⟩
      refine ⟨_, rfl, (by show 5 ≤ sizeLine; decide), fun b hb => ?_⟩
      have hp2' : H p2 = none := hS1.free hp2
      have hl' : H l = none := by
        have q : l ≠ p2 := fun e => by
          rw [e, upd_same] at hl
          cases hl
        rw [upd_ne q] at hl
        exact hS1.free hl
      have nbl : b ≠ l := fun e => by
        rw [e, upd_same] at hb
        cases hb
      have hb1 := hb
      rw [upd_ne nbl] at hb1
      have nb2 : b ≠ p2 := fun e => by
        rw [e, upd_same] at hb1
        cases hb1
      rw [upd_ne nb2] at hb1
      refine k _ b l (fun c o e => ?_) (hS1.free hb1) hl' ⟨⟨0, 0, z, 0, upd_same, Int.le_refl _⟩, ?_, nbl⟩
      · rw [upd_ne (ne_of_none e (hS1.free hb1)), upd_ne (ne_of_none e hl'), upd_ne (ne_of_none e hp2')]
        exact hS1 _ _ e
      · rw [upd_ne nbl.symm, upd_same, cut63]
theorem scPull : FnScope ["_law_bag_here", "_law_many", "_law_rest", "_law_cell", "_law_one", "_law_two"] ["_law_bag_here", "_law_many"] (defScope sPull) := ⟨rfl, rfl, rfl, by decide +kernel, rfl, by decide +kernel, by decide +kernel⟩
theorem div_ok {z m : Int} (h : 0 < m) (h2 : m < 2 ^ 100) : CDivW z m := wide_div h (b := 100) (by omega) (by decide) (by decide)
theorem ok_pull {f : Addr} {fd : FuncData} (F : Fun K "_law_pull" "_law_pull" sPull f fd) (mLen : mg "len" = none) : FnOk P w K mg base CX0 1 f fd ["_law_bag_here", "_law_many"] spPull := by
  refine F.ok scPull (fun vs H Q E h => ?_) (fun cdv A outer s H vs Q E hr h => ?_)
  · obtain ⟨b, l, ns, m, rfl, _⟩ := h
    rfl
  · obtain ⟨b, l, ns, m, rfl, B, hm, hm2, k⟩ := h
    obtain ⟨⟨i, r, sd, c, hb, hi⟩, hl, nbl⟩ := id B
    refine ⟨_, pss_cons (ps_augS (pv 0) pe_int get_list pe_int ip_add set_list)
      (pss_cons (ps_if (pt_cmpR op_gt (pe_ix ix_list (pv 0) pe_int (fun _ _ => rfl)) pe_int (nomark _))
        (pss_cons (ps_set (i := 2) scPull.nd rfl (Or.inl rfl) (pe_ix ix_list (pv 0) pe_int (fun _ _ => rfl)))
          (pss_cons (ps_asg (pe_op op_fdivW (pv 2) (pv 1)) (pg_sub (pv 0) pe_int set_list))
            (pss_one (ps_ret (pe_op op_mod (pv 2) (pv 1)))))) pss_nil)
      (pss_cons (ps_set (i := 3) scPull.nd rfl (Or.inl rfl) (pe_ix ix_list (pv 0) pe_int (fun _ _ => rfl)))
      (C8.pss_cut (ps_if (pt_cmpR op_lt (pe_ix ix_list (pv 0) pe_int (fun _ _ => rfl)) (pe_callB call_len_seq (by rfl) mLen PySem.boot_len (pa_cons (pe_ix ix_list (pv 0) pe_int (fun _ _ => rfl)) pa_nil)) (nomark _))
        (pss_cons (ps_set (i := 3) scPull.nd rfl (Or.inl rfl) (pe_ix ix_list (pe_ix ix_list (pv 0) pe_int (fun _ _ => rfl)) (pe_ix ix_list (pv 0) pe_int (fun _ _ => rfl)) (fun _ _ => rfl)))
          (pss_one (ps_augS (pv 0) pe_int get_list pe_int ip_add set_list))) pss_nil)
      (pss_cons (ps_if (pt_cmpR op_ge (pv 3) (pe_op op_pow pe_int pe_int) (nomark _))
        (pss_cons (ps_asg (pe_op op_fdivW (pv 3) (pv 1)) (pg_sub (pv 0) pe_int set_list))
          (pss_one (ps_ret (pe_op op_mod (pv 3) (pv 1))))) pss_nil)
      (pss_cons (ps_set (i := 4) scPull.nd rfl (Or.inl rfl) (pe_op op_mod (pe_op op_add (pe_op op_add (pe_op op_add (pe_op op_mul (pv 3) pe_int) (pe_op op_mul (pe_ix ix_list (pv 0) pe_int (fun _ _ => rfl)) pe_int)) (pe_op op_mul (pe_ix ix_list (pv 0) pe_int (fun _ _ => rfl)) pe_int)) pe_int) pe_int))
      (pss_cons (ps_set (i := 5) scPull.nd rfl (Or.inl rfl) (pe_op op_mod (pe_op op_add (pe_op op_add (pe_op op_mul (pv 4) (pe_op op_add (pe_op op_mod (pv 4) pe_int) pe_int)) (pe_op op_mul (pe_ix ix_list (pv 0) pe_int (fun _ _ => rfl)) pe_int)) (pe_op op_mod (pe_ix ix_list (pv 0) pe_int (fun _ _ => rfl)) pe_int)) pe_int))
      (pss_cons (ps_asg (pe_op op_mod (pe_op op_add (pe_op op_mul (pe_ix ix_list (pv 0) pe_int (fun _ _ => rfl)) pe_int) (pv 5)) pe_int) (pg_sub (pv 0) pe_int set_list))
      (pss_one (ps_ret (pe_op op_mod (pe_op op_fdiv (pv 5) pe_int) (pv 1))))))))))), ?_⟩
    -- bag[4] += 1
    refine ⟨_, rfl, b, _, 4, _, rfl, rfl, SqL.of hb, rfl, _, _, rfl, rfl, b, _, 4, 4, rfl, rfl, hb, rfl, ?_⟩
    have hb1 : upd H b (.lst [.ref l, .int i, .int r, .int sd, .int (c + 1)]) b = some (.lst [.ref l, .int i, .int r, .int sd, .int (c + 1)]) := upd_same
    have hl1 : upd H b (.lst [.ref l, .int i, .int r, .int sd, .int (c + 1)]) l = some (.lst (ns.map V.int)) := by
      rw [upd_ne nbl.symm]
      exact hl
    -- if bag[2] > 0
    refine ⟨_, rfl, b, _, 2, _, rfl, rfl, SqL.of hb1, rfl, _, _, rfl, rfl, _, rfl, ?_⟩
    refine ite2 (fun _ => ?_) (fun _ => ?_)
    · refine ⟨_, rfl, b, _, 2, _, rfl, rfl, SqL.of hb1, rfl, _, rfl, _, rfl, _, _, rfl, rfl, div_ok hm hm2, _, rfl, b, _, 2, 2, rfl, rfl, hb1, rfl, _, rfl, _, rfl, _, _, rfl, rfl, hm, ?_⟩
      refine k _ _ (Int.emod_nonneg _ (by omega)) (Int.emod_lt_of_pos _ hm) ?_ ?_
      · exact Off.upd.trans Off.upd
      · rw [upd_upd]
        exact B.put hi
    · refine ⟨_, rfl, b, _, 3, _, rfl, rfl, SqL.of hb1, rfl, ?_⟩
      refine ⟨fun σ' H' => ∃ (z j : Int), σ' = [some (.ref b), some (.int m), none, some (.int z), none, none] ∧ H' = upd H b (.lst [.ref l, .int j, .int r, .int sd, .int (c + 1)]) ∧ 0 ≤ j, ?_, ?_⟩
      · refine ⟨_, rfl, b, _, 1, _, rfl, rfl, SqL.of hb1, rfl, _, rfl, b, _, 0, _, rfl, rfl, SqL.of hb1, rfl, l, _, rfl, .inl (SqL.of hl1), _, _, rfl, rfl, _, rfl, ?_⟩
        refine ite2 (fun hc => ?_) (fun _ => ?_)
        · have hlt : i < ((ns.map V.int).length : Int) := of_decide_eq_true hc
          rw [List.length_map] at hlt
          obtain ⟨j, rfl⟩ := Int.eq_ofNat_of_zero_le hi
          have hj : j < ns.length := by omega
          have hat : (ns.map V.int)[j]? = some (.int ns[j]) := by
            rw [List.getElem?_map, List.getElem?_eq_getElem hj]
            rfl
          refine ⟨_, rfl, b, _, 0, _, rfl, rfl, SqL.of hb1, rfl, _, rfl, b, _, 1, _, rfl, rfl, SqL.of hb1, rfl, l, _, _, _, rfl, rfl, SqL.of hl1, atI_nat hat, ?_⟩
          refine ⟨_, rfl, b, _, 1, _, rfl, rfl, SqL.of hb1, rfl, _, _, rfl, rfl, b, _, 1, 1, rfl, rfl, hb1, rfl, ?_⟩
          exact ⟨_, (j : Int) + 1, rfl, upd_upd, by omega⟩
        · exact ⟨sd, i, rfl, rfl, hi⟩
      · rintro σ' H' ⟨z, j, rfl, rfl, hj⟩
        have hb2 : upd H b (.lst [.ref l, .int j, .int r, .int sd, .int (c + 1)]) b = some (.lst [.ref l, .int j, .int r, .int sd, .int (c + 1)]) := upd_same
        refine ⟨_, rfl, _, _, rfl, rfl, ⟨by decide, by decide, by decide⟩, _, _, rfl, rfl, _, rfl, ?_⟩
        refine ite2 (fun _ => ?_) (fun _ => ?_)
        · refine ⟨_, rfl, _, rfl, _, _, rfl, rfl, div_ok hm hm2, _, rfl, b, _, 2, 2, rfl, rfl, hb2, rfl, _, rfl, _, rfl, _, _, rfl, rfl, hm, ?_⟩
          refine k _ _ (Int.emod_nonneg _ (by omega)) (Int.emod_lt_of_pos _ hm) (Off.upd.trans Off.upd) ?_
          rw [upd_upd]
          exact B.put hj
        · refine ⟨_, rfl, _, _, rfl, rfl, .inr ⟨by decide, by decide⟩, _, rfl, b, _, 3, _, rfl, rfl, SqL.of hb2, rfl, _, _, rfl, rfl, .inr ⟨by decide, by decide⟩, _, _, rfl, rfl, _, rfl, b, _, 4, _, rfl, rfl, SqL.of hb2, rfl, _, _, rfl, rfl, .inr ⟨by decide, by decide⟩, _, _, rfl, rfl, _, _, rfl, rfl, _, _, rfl, rfl, (by show (0 : Int) < 2147483629; decide), ?_⟩
          generalize hone : ((z * 48271 + sd * 40503 + (c + 1) * 69621 + 9176) % 2147483629 : Int) = one
          have h1 : 0 ≤ one := by rw [← hone]; exact Int.emod_nonneg _ (by decide)
          have h2 : one < 2147483629 := by rw [← hone]; exact Int.emod_lt_of_pos _ (by decide)
          refine ⟨_, rfl, _, rfl, _, _, rfl, rfl, (by show (0 : Int) < 65521; decide), _, _, rfl, rfl, _, _, rfl, rfl, .inl ⟨by omega, by omega⟩, _, rfl, b, _, 4, _, rfl, rfl, SqL.of hb2, rfl, _, _, rfl, rfl, .inr ⟨by decide, by decide⟩, _, _, rfl, rfl, _, rfl, b, _, 3, _, rfl, rfl, SqL.of hb2, rfl, _, _, rfl, rfl, (by show (0 : Int) < 104729; decide), _, _, rfl, rfl, _, _, rfl, rfl, (by show (0 : Int) < 998244353; decide), ?_⟩
          refine ⟨_, rfl, b, _, 3, _, rfl, rfl, SqL.of hb2, rfl, _, _, rfl, rfl, .inr ⟨by decide, by decide⟩, _, rfl, _, _, rfl, rfl, _, _, rfl, rfl, (by show (0 : Int) < 2147483563; decide), _, rfl, b, _, 3, 3, rfl, rfl, hb2, rfl, _, rfl, _, _, rfl, rfl, ⟨by decide, by decide⟩, _, rfl, _, _, rfl, rfl, hm, ?_⟩
          refine k _ _ (Int.emod_nonneg _ (by omega)) (Int.emod_lt_of_pos _ hm) (Off.upd.trans Off.upd) ?_
          rw [upd_upd]
          exact B.put hj
end
end KW
set_option Elab.async false
set_option maxRecDepth 100000
namespace KW
open PySem PySem.Spec PyProof.Rows L2
/-- what stood stands, but for b -/
def Grow (b : Addr) (H H' : Hp) : Prop := ∀ a o, a ≠ b → H a = some o → H' a = some o
theorem Grow.refl (b : Addr) (H : Hp) : Grow b H H := fun _ _ _ h => h
theorem Grow.trans {b : Addr} {H H1 H2 : Hp} (x : Grow b H H1) (y : Grow b H1 H2) : Grow b H H2 := fun a o n h => y a o n (x a o n h)
theorem Off.grow {b : Addr} {H H' : Hp} (x : Off b H H') : Grow b H H' := fun a o n h => (x a n).trans h
theorem Grow.new {b : Addr} {H H1 : Hp} (x : Grow b H H1) {p : Addr} {o : HO} (n : H p = none) : Grow b H (upd H1 p o) := fun a u na h => by
  rw [upd_ne (ne_of_none h n)]
  exact x a u na h
/-- what never changes: tuples, locked things -/
def Fix : HO → Prop
  | .tup _ => True
  | .frz _ _ => True
  | _ => False
/-- they stay -/
def Kp (H H' : Hp) : Prop := ∀ a o, Fix o → H a = some o → H' a = some o
theorem Kp.t {H H' : Hp} (k : Kp H H') {a : Addr} {xs : List V} (h : H a = some (.tup xs)) : H' a = some (.tup xs) := k a _ trivial h
theorem Kp.f {H H' : Hp} (k : Kp H H') {a : Addr} {xs : List V} (h : FzT H a xs) : FzT H' a xs := by
  obtain ⟨o, h, d⟩ := h
  exact ⟨o, k a _ trivial h, d⟩
theorem Kp.refl (H : Hp) : Kp H H := fun _ _ _ h => h
theorem Kp.trans {H H1 H2 : Hp} (x : Kp H H1) (y : Kp H1 H2) : Kp H H2 := fun a o f h => y a o f (x a o f h)
theorem Fix.ne {o : HO} (f : Fix o) {xs : List V} : o ≠ .lst xs := fun z => by
  subst z
  exact f
theorem Kp.off {b : Addr} {H H' : Hp} {xs : List V} (h : H b = some (.lst xs)) (x : Off b H H') : Kp H H' := fun a o f e => by
  rw [x a (ne_of e h f.ne)]
  exact e
theorem Kp.grow {b : Addr} {H H' : Hp} {xs : List V} (h : H b = some (.lst xs)) (x : Grow b H H') : Kp H H' := fun a o f e => x a _ (ne_of e h f.ne) e
theorem Kp.new {H : Hp} {p : Addr} {o : HO} (n : H p = none) : Kp H (upd H p o) := fun a u _ h => by
  rw [upd_ne (ne_of_none h n)]
  exact h
theorem Kp.put {H : Hp} {p : Addr} {xs : List V} {o : HO} (h : H p = some (.lst xs)) : Kp H (upd H p o) := fun a u f e => by
  rw [upd_ne (ne_of e h f.ne)]
  exact e
theorem BagAt.list {b l : Addr} {ns : List Int} {H : Hp} (B : BagAt b l ns H) : ∃ xs, H b = some (.lst xs) := by
  obtain ⟨⟨i, r, s, c, h, _⟩, _⟩ := B
  exact ⟨_, h⟩
theorem BagAt.new {b l : Addr} {ns : List Int} {H : Hp} (B : BagAt b l ns H) {p : Addr} {o : HO} (n : H p = none) : BagAt b l ns (upd H p o) := by
  obtain ⟨⟨i, r, s, c, h, hi⟩, hl, nbl⟩ := B
  exact ⟨⟨i, r, s, c, by rw [upd_ne (ne_of_none h n)]; exact h, hi⟩, by rw [upd_ne (ne_of_none hl n)]; exact hl, nbl⟩
/-- another list is written -/
theorem BagAt.other {b l : Addr} {ns : List Int} {H : Hp} (B : BagAt b l ns H) {p : Addr} {o : HO} (n1 : b ≠ p) (n2 : l ≠ p) : BagAt b l ns (upd H p o) := by
  obtain ⟨⟨i, r, s, c, h, hi⟩, hl, nbl⟩ := B
  exact ⟨⟨i, r, s, c, by rw [upd_ne n1]; exact h, hi⟩, by rw [upd_ne n2]; exact hl, nbl⟩
theorem BagAt.nb {b l : Addr} {ns : List Int} {H : Hp} (B : BagAt b l ns H) {p : Addr} (n : H p = none) : b ≠ p := by
  obtain ⟨xs, h⟩ := B.list
  exact ne_of_none h n
theorem BagAt.nl {b l : Addr} {ns : List Int} {H : Hp} (B : BagAt b l ns H) {p : Addr} (n : H p = none) : l ≠ p := ne_of_none B.2.1 n
def IsP (H : Hp) (v : V) (p : Nat × Nat) : Prop := ∃ a, v = .ref a ∧ H a = some (.tup [.int p.1, .int p.2])
abbrev PairsIn (H : Hp) (as : List V) (ps : List (Nat × Nat)) : Prop := Paired (IsP H) as ps
theorem IsP.kp {H H' : Hp} {v : V} {p : Nat × Nat} (k : Kp H H') (h : IsP H v p) : IsP H' v p := by
  obtain ⟨a, e, h⟩ := h
  exact ⟨a, e, k.t h⟩
theorem PairsIn.kp {H H' : Hp} (k : Kp H H') : ∀ {as : List V} {ps : List (Nat × Nat)}, PairsIn H as ps → PairsIn H' as ps
  | _, _, .nil => .nil
  | _, _, .cons a r => .cons (a.kp k) (PairsIn.kp k r)
theorem paired_snoc {α β : Type} {R : α → β → Prop} : ∀ {as : List α} {bs : List β} {a : α} {b : β}, Paired R as bs → R a b → Paired R (as ++ [a]) (bs ++ [b])
  | _, _, _, _, .nil, h => .cons h .nil
  | _, _, _, _, .cons x r, h => .cons x (paired_snoc r h)
theorem paired_perm {α β : Type} {R : α → β → Prop} {xs ys : List α} (h : ys.Perm xs) : ∀ {bs : List β}, Paired R xs bs → ∃ cs, Paired R ys cs ∧ cs.Perm bs := by
  induction h with
  | nil => intro bs r; cases r; exact ⟨[], .nil, .nil⟩
  | cons x p ih =>
    intro bs r
    cases r with
    | cons a r =>
      obtain ⟨cs, h1, h2⟩ := ih r
      exact ⟨_, .cons a h1, h2.cons _⟩
  | swap x y l =>
    intro bs r
    cases r with
    | cons a r =>
      cases r with
      | cons a' r => exact ⟨_, .cons a' (.cons a r), .swap ..⟩
  | trans p q ih1 ih2 =>
    intro bs r
    obtain ⟨cs, h1, h2⟩ := ih2 r
    obtain ⟨ds, h3, h4⟩ := ih1 h1
    exact ⟨ds, h3, h4.trans h2⟩
theorem erase_perm {α : Type} : ∀ {xs : List α} {k : Nat} {y : α}, xs[k]? = some y → (y :: xs.eraseIdx k).Perm xs
  | [], k, y, h => by simp at h
  | x :: xs, 0, y, h => by
    have e : x = y := by simpa using h
    subst e
    exact List.Perm.refl _
  | x :: xs, k + 1, y, h => by
    have ih := erase_perm (xs := xs) (k := k) (y := y) (by simpa using h)
    show (y :: x :: xs.eraseIdx k).Perm (x :: xs)
    exact (List.Perm.swap ..).trans (ih.cons x)
/-- n rooms, arrows ps, an arrow out of each room -/
def Good (n : Nat) (ps : List (Nat × Nat)) : Prop := 1 ≤ n ∧ (∀ p ∈ ps, p.1 < n ∧ p.2 < n) ∧ ∀ r, r < n → ∃ p ∈ ps, p.1 = r
def WebT (H : Hp) (t : Addr) (n : Nat) (ps : List (Nat × Nat)) : Prop := ∃ q as, H t = some (.tup [.int n, .ref q]) ∧ FzT H q as ∧ PairsIn H as ps ∧ Good n ps
theorem WebT.kp {H H' : Hp} (k : Kp H H') {t n ps} (h : WebT H t n ps) : WebT H' t n ps := by
  obtain ⟨q, as, h1, h2, h3, h4⟩ := h
  exact ⟨q, as, k.t h1, k.f h2, PairsIn.kp k h3, h4⟩
abbrev sMixed : Stmt := topS 30
abbrev sWeb : Stmt := topS 31
def spMixed (K : PySem.W.Frag) : Sp := fun vs H Q _ => ∃ (b l a : Addr) (ns : List Int) (xs : List V), vs = [.ref b, .ref a] ∧ BagAt b l ns H ∧ SqL K H a xs ∧ xs.length ≤ 1000 ∧
  ∀ (H' : Hp) (p : Addr) (ys : List V), Grow b H H' → H p = none → H' p = some (.lst ys) → ys.Perm xs → BagAt b l ns H' → Q (.ref p) H'
def spWeb : Sp := fun vs H Q _ => ∃ (b l : Addr) (ns : List Int) (rm mm : Nat), vs = [.ref b, .int rm, .int mm] ∧ BagAt b l ns H ∧ 1 ≤ rm ∧ rm ≤ 100 ∧ mm ≤ 100 ∧
  ∀ (H' : Hp) (t : Addr) (n : Nat) (ps : List (Nat × Nat)), Grow b H H' → WebT H' t n ps → n ≤ rm → ps.length ≤ rm + mm → BagAt b l ns H' → Q (.ref t) H'
section
variable {P : Program} {w : World} {K : PySem.W.Frag} {mg : Str → Option Value} {base : Heap}
theorem scMixed : FnScope ["_law_bag_here", "_law_some", "_law_left", "_law_found", "_law_k"] ["_law_bag_here", "_law_some"] (defScope sMixed) := ⟨rfl, rfl, rfl, by decide +kernel, rfl, by decide +kernel, by decide +kernel⟩
theorem ok_mixed {f fP : Addr} {fd fdP : FuncData} (F : Fun K "_law_mixed" "_law_mixed" sMixed f fd) (GP : FnOk P w K mg base CX0 1 fP fdP ["_law_bag_here", "_law_many"] spPull) (bP : Binds K fdP ["_law_bag_here", "_law_many"] []) (mP : mg "_law_pull" = some (.ref fP)) (kP : PySem.W.keepIn K (.ref fP) = true)
    (mLen : mg "len" = none) (mList : mg "list" = none) (mRange : mg "range" = none) : FnOk P w K mg base CX0 2 f fd ["_law_bag_here", "_law_some"] (spMixed K) := by
  refine F.ok scMixed (fun vs H Q E h => ?_) (fun cdv A outer s H vs Q E hr h => ?_)
  · obtain ⟨b, l, a, ns, xs, rfl, _⟩ := h
    rfl
  · obtain ⟨b, l, a, ns, xs, rfl, B, hS, hlen, k⟩ := h
    refine ⟨_, pss_cons (ps_par (by rfl) scMixed.nd (i := 2) (j := 3) rfl rfl (by decide) rfl rfl (pa_cons (pe_callTy call_list_of (by rfl) mList (by decide +kernel) (pa_cons (pv 1) pa_nil)) (pa_cons (pe_lst pa_nil) pa_nil)) (by rfl))
      (pss_cons (ps_for PassesOwn.never rfl (pi_range1 (by rfl) mRange (pa_cons (pe_callB call_len_seq (by rfl) mLen PySem.boot_len (pa_cons (pv 1) pa_nil)) pa_nil)) (pg_name (i := 4) scMixed.nd rfl (Or.inl rfl))
        (pss_one (ps_expr (pe_bm PySem.F.plainAttrs_list PySem.F.slot_list_append PySem.F.type_list_append mt_append (pv 3) (pa_cons
          (pe_bm PySem.F.plainAttrs_list PySem.F.slot_list_pop PySem.F.type_list_pop mt_popAt (pv 2) (pa_cons
            (pe_call GP hr rfl mP kP bP .nil pass0 (pa_cons (pv 0) (pa_cons (pe_callB call_len_seq (by rfl) mLen PySem.boot_len (pa_cons (pv 2) pa_nil)) pa_nil))) pa_nil)) pa_nil)))))
      (pss_one (ps_ret (pv 3)))), ?_⟩
    refine ⟨_, rfl, a, xs, rfl, .inl hS, fun lf hlf => ⟨Nat.zero_le _, fun fd' hfd => ⟨_, _, rfl, ?_⟩⟩⟩
    have nfl : fd' ≠ lf := fun e => by
      rw [e, upd_same] at hfd
      cases hfd
    have hfd0 : H fd' = none := by
      rw [upd_ne nfl] at hfd
      exact hfd
    have S2 : Same H (upd (upd H lf (.lst xs)) fd' (.lst [])) := fun c o e => by
      rw [upd_ne (ne_of_none e hfd0), upd_ne (ne_of_none e hlf)]
      exact e
    have G2 : Grow b H (upd (upd H lf (.lst xs)) fd' (.lst [])) := fun c o _ e => S2 c o e
    refine ⟨_, rfl, a, xs, rfl, .inl (S2.seq hS), _, rfl, by omega, by omega, for_range (lo := 0) (n := xs.length) (fun i σ H' => ∃ (v : Option V) (L Fo : List V), σ = [some (.ref b), some (.ref a), some (.ref lf), some (.ref fd'), v] ∧ H' lf = some (.lst L) ∧ H' fd' = some (.lst Fo) ∧
        (Fo ++ L).Perm xs ∧ Fo.length = i ∧ BagAt b l ns H' ∧ Grow b H H')
      ⟨none, xs, [], rfl, by rw [upd_ne nfl.symm, upd_same], upd_same, List.Perm.refl _, rfl, (B.new hlf).new hfd, G2⟩ ?_ ?_⟩
    · rintro i σ H' hi ⟨v, L, Fo, rfl, hL, hF, hp, hfl, B', G'⟩
      have hll : Fo.length + L.length = xs.length := by
        have := hp.length_eq
        rw [List.length_append] at this
        exact this
      have nbl : b ≠ lf := B.nb hlf
      have nbf : b ≠ fd' := B.nb hfd0
      have nll : l ≠ lf := B.nl hlf
      have nlf : l ≠ fd' := B.nl hfd0
      refine ⟨_, rfl, .inl ⟨rfl, _, SqL.of hF⟩, _, rfl, .inl ⟨rfl, _, SqL.of hL⟩, _, rfl, _, rfl, lf, _, rfl, .inl (SqL.of hL), b, l, ns, _, rfl, B', by omega, by omega, fun H2 r h0 h1 O2 B2 => ?_⟩
      have hL2 : H2 lf = some (.lst L) := by rw [O2 lf nbl.symm]; exact hL
      have hF2 : H2 fd' = some (.lst Fo) := by rw [O2 fd' nbf.symm]; exact hF
      obtain ⟨j, rfl⟩ := Int.eq_ofNat_of_zero_le h0
      have hj : j < L.length := by omega
      have hat : L[j]? = some L[j] := List.getElem?_eq_getElem hj
      have hsq : seqIndex? ((j : Nat) : Int) L.length = some j := by
        rw [seqIndex_of (by omega) (by omega)]
        rfl
      refine ⟨lf, _, _, j, _, rfl, rfl, hL2, by omega, by omega, hsq, hat, fd', _, _, rfl, rfl, Eq.trans (upd_ne nfl) hF2, by rw [sizeLine_eq]; omega, ?_⟩
      refine ⟨_, L.eraseIdx j, Fo ++ [L[j]], rfl, by rw [upd_ne nfl.symm, upd_same], upd_same, ?_, by simp [hfl], (B2.other nbl nll).other nbf nlf, ((G'.trans O2.grow).new hlf).new hfd0⟩
      rw [List.append_assoc]
      exact ((erase_perm hat).append_left Fo).trans hp
    · rintro σ H' ⟨v, L, Fo, rfl, hL, hF, hp, hfl, B', G'⟩
      have hll : L = [] := by
        have := hp.length_eq
        rw [List.length_append] at this
        exact List.length_eq_zero_iff.mp (by omega)
      subst hll
      rw [List.append_nil] at hp
      exact ⟨_, rfl, k H' fd' Fo G' hfd0 hF hp B'⟩
end
end KW
set_option Elab.async false
set_option maxRecDepth 100000
namespace KW
open PySem PySem.Spec PyProof.Rows L2
abbrev sIsPair : Stmt := topS 14
abbrev sPairsOf : Stmt := topS 15
abbrev sGathered : Stmt := topS 16
theorem IsR.kp {H H' : Hp} {v : V} {l : List Nat} (k : Kp H H') (h : IsR H v l) : IsR H' v l := by
  obtain ⟨a, e, h⟩ := h
  exact ⟨a, e, k.t h⟩
theorem RowsIn.kp {H H' : Hp} (k : Kp H H') : ∀ {vs : List V} {ls : List (List Nat)}, RowsIn H vs ls → RowsIn H' vs ls
  | _, _, .nil => .nil
  | _, _, .cons a r => .cons (a.kp k) (RowsIn.kp k r)
theorem Same.kp {H H' : Hp} (s : Same H H') : Kp H H' := fun a o _ h => s a o h
theorem same_new {H H1 : Hp} (s : Same H H1) {p : Addr} {o : HO} (n : H1 p = none) : Same H (upd H1 p o) := fun a u h => by
  rw [upd_ne (ne_of_none (s a u h) n)]
  exact s a u h
theorem same_put {H H1 : Hp} (s : Same H H1) {p : Addr} {o : HO} (n : H p = none) : Same H (upd H1 p o) := fun a u h => by
  rw [upd_ne (ne_of_none h n)]
  exact s a u h
theorem paired_at {α β : Type} {R : α → β → Prop} : ∀ {as : List α} {bs : List β} {i : Nat} {a : α}, Paired R as bs → as[i]? = some a → ∃ b, bs[i]? = some b ∧ R a b
  | _, _, _, _, .nil, h => by simp at h
  | _, _, 0, _, .cons x r, h => by
    simp at h
    subst h
    exact ⟨_, rfl, x⟩
  | _, _, i + 1, a, .cons x r, h => by
    obtain ⟨b, h1, h2⟩ := paired_at (i := i) (a := a) r (by simpa using h)
    exact ⟨b, by simpa using h1, h2⟩
def spIsPair (K : PySem.W.Frag) : Sp := fun vs H Q _ => ∃ (a : Addr) (n x y : Nat), vs = [.ref a, .int n] ∧ (SqL K H a [.int x, .int y] ∨ SqT K H a [.int x, .int y]) ∧ x < n ∧ y < n ∧ Q (.bl true) H
def PairL (K : PySem.W.Frag) (H : Hp) (v : V) (p : Nat × Nat) : Prop := ∃ a, v = .ref a ∧ (SqL K H a [.int p.1, .int p.2] ∨ SqT K H a [.int p.1, .int p.2])
def spPairsOf (K : PySem.W.Frag) : Sp := fun vs H Q _ => ∃ (a : Addr) (n : Nat) (as : List V) (ps : List (Nat × Nat)), vs = [.int n, .ref a] ∧ SqL K H a as ∧ Paired (PairL K H) as ps ∧ (∀ p ∈ ps, p.1 < n ∧ p.2 < n) ∧ ps.length ≤ 400 ∧
  ∀ (H' : Hp) (q : Addr) (bs : List V), Same H H' → FzT H' q bs → PairsIn H' bs ps → Q (.ref q) H'
def spGathered (K : PySem.W.Frag) : Sp := fun vs H Q _ => ∃ (a : Addr) (n : Nat) (ps : List Nat), vs = [.int n, .ref a] ∧ SqL K H a (nums ps) ∧ (∀ p ∈ ps, p < n) ∧ n ≤ 1000 ∧ ps.length ≤ 1000 ∧
  ∀ (H' : Hp) (q : Addr) (bs : List V), Same H H' → H' q = some (.tup bs) → RowsIn H' bs (gat n ps) → Q (.ref q) H'
theorem PairL.same {K : PySem.W.Frag} {H H' : Hp} {v : V} {p : Nat × Nat} (s : Same H H') (h : PairL K H v p) : PairL K H' v p := by
  obtain ⟨a, e, h⟩ := h
  refine ⟨a, e, ?_⟩
  rcases h with h | h
  · exact .inl (s.seq h)
  · rcases h with (h | ⟨o, h⟩) | h
    · exact .inr (.inl (.inl (s _ _ h)))
    · exact .inr (.inl (.inr ⟨o, s _ _ h⟩))
    · exact .inr (.inr h)
section
variable {P : Program} {w : World} {K : PySem.W.Frag} {mg : Str → Option Value} {base : Heap}
theorem scIsPair : FnScope ["thing", "rooms"] ["thing", "rooms"] (defScope sIsPair) := ⟨rfl, rfl, rfl, by decide +kernel, rfl, by decide +kernel, by decide +kernel⟩
theorem ok_is_pair {f : Addr} {fd : FuncData} (F : Fun K "is_pair" "is_pair" sIsPair f fd) (mLen : mg "len" = none) : FnOk P w K mg base CX0 1 f fd ["thing", "rooms"] (spIsPair K) := by
  refine F.ok scIsPair (fun vs H Q E h => ?_) (fun cdv A outer s H vs Q E hr h => ?_)
  · obtain ⟨a, n, x, y, rfl, _⟩ := h
    rfl
  · obtain ⟨a, n, x, y, rfl, hS, hx, hy, k⟩ := h
    refine ⟨_, pss_one (ps_ret (pe_and (pe_cmpR op_eq (pe_callB call_len_seq (by rfl) mLen PySem.boot_len (pa_cons (pv 0) pa_nil)) pe_int (nomark _))
      (pe_and (pe_chain op_le op_lt pe_int (pe_ix ix_seq (pv 0) pe_int (fun _ _ => rfl)) (pv 1))
        (pe_one (pe_chain op_le op_lt pe_int (pe_ix ix_seq (pv 0) pe_int (fun _ _ => rfl)) (pv 1)))))), ?_⟩
    have d1 : decide ((0 : Int) ≤ (x : Int)) = true := decide_eq_true (by omega)
    have d2 : decide ((0 : Int) ≤ (y : Int)) = true := decide_eq_true (by omega)
    have d3 : decide ((x : Int) < (n : Int)) = true := decide_eq_true (by omega)
    have d4 : decide ((y : Int) < (n : Int)) = true := decide_eq_true (by omega)
    have i0 : ∀ {Q' : VK}, Q' (.int (x : Int)) H → rIx K (.ref a) (.int 0) H Q' := fun {Q'} q => by
      rcases hS with h | h
      · exact .inl ⟨a, _, 0, _, rfl, rfl, h, rfl, q⟩
      · exact .inr (.inl ⟨a, _, 0, _, rfl, rfl, h, rfl, q⟩)
    have i1 : ∀ {Q' : VK}, Q' (.int (y : Int)) H → rIx K (.ref a) (.int 1) H Q' := fun {Q'} q => by
      rcases hS with h | h
      · exact .inl ⟨a, _, 1, _, rfl, rfl, h, rfl, q⟩
      · exact .inr (.inl ⟨a, _, 1, _, rfl, rfl, h, rfl, q⟩)
    refine ⟨_, rfl, a, _, rfl, hS, rfl, true, rfl, iteT ?_⟩
    refine ⟨_, rfl, i0 ⟨_, _, rfl, rfl, true, congrArg V.bl d1, iteT ⟨_, rfl, _, _, rfl, rfl, true, congrArg V.bl d3, iteT ?_⟩⟩⟩
    refine ⟨_, rfl, i1 ⟨_, _, rfl, rfl, true, congrArg V.bl d2, iteT ⟨_, rfl, _, _, rfl, rfl, ?_⟩⟩⟩
    dsimp only
    rw [d4]
    exact k
theorem scPairsOf : FnScope ["rooms", "arrows", "pairs", "at", "thing"] ["rooms", "arrows"] (defScope sPairsOf) := ⟨rfl, rfl, rfl, by decide +kernel, rfl, by decide +kernel, by decide +kernel⟩
theorem ok_pairs_of {f fI : Addr} {fd fdI : FuncData} {t4 : Tok} (F : Fun K "pairs_of" "pairs_of" sPairsOf f fd) (GI : FnOk P w K mg base CX0 1 fI fdI ["thing", "rooms"] (spIsPair K)) (bI : Binds K fdI ["thing", "rooms"] []) (mI : mg "is_pair" = some (.ref fI)) (kI : PySem.W.keepIn K (.ref fI) = true)
    (mEnum : mg "enumerate" = none) (mTuple : mg "tuple" = none) (m4 : mg "MOST_ARROWS" = some (.int 400 t4)) : FnOk P w K mg base CX0 2 f fd ["rooms", "arrows"] (spPairsOf K) := by
  refine F.ok scPairsOf (fun vs H Q E h => ?_) (fun cdv A outer s H vs Q E hr h => ?_)
  · obtain ⟨a, n, as, ps, rfl, _⟩ := h
    rfl
  · obtain ⟨a, n, as, ps, rfl, hS, hA, hb, hl, k⟩ := h
    have hlen : as.length = ps.length := Paired.length hA
    refine ⟨_, pss_cons (ps_set (i := 2) scPairsOf.nd rfl (Or.inl rfl) (pe_lst pa_nil))
      (pss_cons (ps_for PassesOwn.never rfl (pi_enum (by rfl) mEnum (pa_cons (pv 1) pa_nil)) (pg_tup rfl (pgs_cons (pg_name (i := 3) scPairsOf.nd rfl (Or.inl rfl)) (pgs_cons (pg_name (i := 4) scPairsOf.nd rfl (Or.inl rfl)) pgs_nil)))
        (pss_cons (ps_if (PW.pt (pw_or (pt_cmpR op_ge (pv 3) (pe_glob (v := .int 400) rfl m4 ⟨_, rfl⟩) (nomark _)) (pw_or1 (pt_not (pt_val (pe_call GI hr rfl mI kI bI .nil pass0 (pa_cons (pv 4) (pa_cons (pv 0) pa_nil)))))))) (pss_never) pss_nil)
          (pss_one (ps_expr (pe_bm PySem.F.plainAttrs_list PySem.F.slot_list_append PySem.F.type_list_append mt_append (pv 2) (pa_cons
            (pe_tup (pa_cons (pe_ix ix_seq (pv 4) pe_int (fun _ _ => rfl)) (pa_cons (pe_ix ix_seq (pv 4) pe_int (fun _ _ => rfl)) pa_nil))) pa_nil))))))
      (pss_one (ps_ret (pe_callTy call_tupleF (by rfl) mTuple (by decide +kernel) (pa_cons (pv 2) pa_nil))))), ?_⟩
    refine ⟨Nat.zero_le _, fun D hD => ?_⟩
    have S1 : Same H (upd H D (.lst [])) := same_new (Same.refl H) hD
    refine ⟨_, rfl, a, as, rfl, S1.seq hS, for_it (walk_enum (K := K) (a := a) (xs := as)) (fun i σ H' => ∃ (v1 v2 : Option V) (bs : List V), σ = [some (.int n), some (.ref a), some (.ref D), v1, v2] ∧ H' D = some (.lst bs) ∧ PairsIn H' bs (ps.take i) ∧ Same H H')
      ⟨none, none, [], rfl, upd_same, .nil, S1⟩ (fun i σ H' _ ⟨_, _, _, _, _, _, s'⟩ => s'.seq hS) ?_ ?_⟩
    · rintro i x σ H' H2 hi ⟨v1, v2, bs, rfl, hB, hP, s'⟩ ⟨T, x1, x2, rfl, hT, rfl, e1, e2⟩
      have e1 : V.int (i : Nat) = x1 := Option.some.inj e1
      subst e1
      obtain ⟨p, hp, ⟨c, rfl, hc⟩⟩ := paired_at hA e2
      have hpm : p ∈ ps := List.mem_of_getElem? hp
      have s2 : Same H (upd H' T (.tup [.int (i : Nat), .ref c])) := same_new s' hT
      have hc2 : SqL K (upd H' T (.tup [.int (i : Nat), .ref c])) c [.int p.1, .int p.2] ∨ SqT K (upd H' T (.tup [.int (i : Nat), .ref c])) c [.int p.1, .int p.2] := by
        obtain ⟨c', e, h⟩ := PairL.same s2 ⟨c, rfl, hc⟩
        cases e
        exact h
      have hB2 : upd H' T (.tup [.int (i : Nat), .ref c]) D = some (.lst bs) := by rw [upd_ne (ne_of_none hB hT)]; exact hB
      refine ⟨T, _, rfl, SqT.of upd_same, rfl, _, _, rfl, _, _, rfl, rfl, ?_⟩
      have d1 : decide ((400 : Int) ≤ ((i : Nat) : Int)) = false := decide_eq_false (by omega)
      refine ⟨_, rfl, _, _, rfl, rfl, false, congrArg V.bl d1, ?_⟩
      refine iteF ?_
      refine ⟨_, rfl, _, rfl, c, n, p.1, p.2, rfl, hc2, (hb p hpm).1, (hb p hpm).2, true, rfl, iteF ?_⟩
      generalize hH3 : upd H' T (.tup [.int (i : Nat), .ref c]) = H3 at s2 hc2 hB2
      have i0 : ∀ {Q' : VK}, Q' (.int (p.1 : Int)) H3 → rIx K (.ref c) (.int 0) H3 Q' := fun {Q'} q => by
        rcases hc2 with h | h
        · exact .inl ⟨c, _, 0, _, rfl, rfl, h, rfl, q⟩
        · exact .inr (.inl ⟨c, _, 0, _, rfl, rfl, h, rfl, q⟩)
      have i1 : ∀ {Q' : VK}, Q' (.int (p.2 : Int)) H3 → rIx K (.ref c) (.int 1) H3 Q' := fun {Q'} q => by
        rcases hc2 with h | h
        · exact .inl ⟨c, _, 1, _, rfl, rfl, h, rfl, q⟩
        · exact .inr (.inl ⟨c, _, 1, _, rfl, rfl, h, rfl, q⟩)
      have hP3 : PairsIn H3 bs (ps.take i) := by
        rw [← hH3]
        exact PairsIn.kp (Kp.new hT) hP
      refine ⟨_, rfl, .inl ⟨rfl, _, SqL.of hB2⟩, _, rfl, i0 ⟨_, rfl, i1 ⟨by show 2 ≤ sizeLine; decide, fun U hU => ?_⟩⟩⟩
      have nDU : D ≠ U := ne_of_none hB2 hU
      have hbl : bs.length ≤ 400 := by
        rw [Paired.length hP3]
        exact Nat.le_trans (List.length_take_le' _ _) hl
      refine ⟨D, bs, _, rfl, rfl, Eq.trans (upd_ne nDU) hB2, by rw [sizeLine_eq]; omega, ?_⟩
      refine ⟨_, _, bs ++ [.ref U], rfl, upd_same, ?_, same_put (same_new s2 hU) hD⟩
      have et : ps.take (i + 1) = ps.take i ++ [p] := by
        rw [List.take_succ, hp]
        rfl
      rw [et]
      refine paired_snoc (PairsIn.kp ((Kp.new hU).trans (Kp.put (Eq.trans (upd_ne nDU) hB2))) hP3) ⟨U, rfl, ?_⟩
      rw [upd_ne nDU.symm, upd_same]
    · rintro σ H' ⟨v1, v2, bs, rfl, hB, hP, s'⟩
      rw [hlen, List.take_length] at hP
      exact ⟨_, rfl, D, bs, rfl, SqL.of hB, fun q o hq hd => k _ q bs (same_new s' hq) ⟨o, upd_same, hd⟩ (PairsIn.kp (Kp.new hq) hP)⟩
end
end KW
set_option Elab.async false
set_option maxRecDepth 100000
namespace KW
open PySem PySem.Spec PyProof.Rows L2
abbrev sWebClass : Stmt := topS 17
abbrev sInit : Stmt := inClass sWebClass 0
structure WebC (K : PySem.W.Frag) (C : Addr) : Prop where
  cl : Cls K C
  nT : NoAttr K C "room_total"
  nP : NoAttr K C "pairs"
  nL : NoAttr K C "leaving"
  nE : NoAttr K C "entering"
def wf (n : Nat) (q lv en : Addr) : List (Str × V) := putF "entering" (.ref en) (putF "leaving" (.ref lv) (putF "pairs" (.ref q) (putF "room_total" (.int n) [])))
theorem wf_entering (n : Nat) (q lv en : Addr) : (wf n q lv en).lookup ("entering" : Str) = some (.ref en) := by
  unfold wf
  rw [lookup_putF, if_pos rfl]
theorem wf_leaving (n : Nat) (q lv en : Addr) : (wf n q lv en).lookup ("leaving" : Str) = some (.ref lv) := by
  unfold wf
  rw [lookup_putF, if_neg (by decide +kernel), lookup_putF, if_pos rfl]
theorem wf_pairs (n : Nat) (q lv en : Addr) : (wf n q lv en).lookup ("pairs" : Str) = some (.ref q) := by
  unfold wf
  rw [lookup_putF, if_neg (by decide +kernel), lookup_putF, if_neg (by decide +kernel), lookup_putF, if_pos rfl]
theorem wf_total (n : Nat) (q lv en : Addr) : (wf n q lv en).lookup ("room_total" : Str) = some (.int n) := by
  unfold wf
  rw [lookup_putF, if_neg (by decide +kernel), lookup_putF, if_neg (by decide +kernel), lookup_putF, if_neg (by decide +kernel), lookup_putF, if_pos rfl]
theorem wf_no (n : Nat) (q lv en : Addr) {m : Str} (h1 : ¬ m = "entering") (h2 : ¬ m = "leaving") (h3 : ¬ m = "pairs") (h4 : ¬ m = "room_total") : (wf n q lv en).lookup m = none := by
  unfold wf
  rw [lookup_putF, if_neg h1, lookup_putF, if_neg h2, lookup_putF, if_neg h3, lookup_putF, if_neg h4]
  rfl
/-- a web at x: n rooms, arrows ps -/
def WebAt (C : Addr) (H : Hp) (x : Addr) (n : Nat) (ps : List (Nat × Nat)) : Prop := ∃ (dx q lv en : Addr) (as ls es : List V), H x = some (.ins C dx (wf n q lv en)) ∧ FzT H q as ∧ PairsIn H as ps ∧
  H lv = some (.tup ls) ∧ RowsIn H ls (gat n (ps.map (·.1))) ∧ H en = some (.tup es) ∧ RowsIn H es (gat n (ps.map (·.2)))
theorem WebAt.to {C : Addr} {H H' : Hp} {x : Addr} {n : Nat} {ps : List (Nat × Nat)} (k : Kp H H') (hx : H' x = H x) (h : WebAt C H x n ps) : WebAt C H' x n ps := by
  obtain ⟨dx, q, lv, en, as, ls, es, h1, h2, h3, h4, h5, h6, h7⟩ := h
  exact ⟨dx, q, lv, en, as, ls, es, hx.trans h1, k.f h2, PairsIn.kp k h3, k.t h4, RowsIn.kp k h5, k.t h6, RowsIn.kp k h7⟩
theorem putF_lt {f : Str} {v : V} {fs : List (Str × V)} {k : Nat} (h : fs.length < k) : (putF f v fs).length < k + 1 := Nat.lt_of_le_of_lt (length_putF f v fs) (by omega)
def spInit (K : PySem.W.Frag) (C : Addr) : Sp := fun vs H Q _ => ∃ (x dx a : Addr) (n : Nat) (as : List V) (ps : List (Nat × Nat)), vs = [.ref x, .int n, .ref a] ∧ H x = some (.ins C dx []) ∧ SqL K H a as ∧ Paired (PairL K H) as ps ∧ Good n ps ∧ n ≤ 100 ∧ ps.length ≤ 400 ∧
  ∀ H' : Hp, WebAt C H' x n ps → (∀ b o, b ≠ x → H b = some o → H' b = some o) → Q .non H'
theorem PairsIn.loose {K : PySem.W.Frag} {H : Hp} : ∀ {as : List V} {ps : List (Nat × Nat)}, PairsIn H as ps → Paired (PairL K H) as ps
  | _, _, .nil => .nil
  | _, _, .cons ⟨a, e, h⟩ r => .cons ⟨a, e, .inr (SqT.of h)⟩ (PairsIn.loose r)
theorem pairs_get {H : Hp} {as : List V} {ps : List (Nat × Nat)} {i : Nat} {x : V} (h : PairsIn H as ps) (e : as[i]? = some x) : ∃ (p : Nat × Nat) (a : Addr), ps[i]? = some p ∧ x = .ref a ∧ H a = some (.tup [.int p.1, .int p.2]) := by
  obtain ⟨p, h1, a, h2, h3⟩ := paired_at h e
  exact ⟨p, a, h1, h2, h3⟩
theorem take_snoc {α : Type} {l : List α} {i : Nat} {a : α} (h : l[i]? = some a) : l.take (i + 1) = l.take i ++ [a] := by
  rw [List.take_succ, h]
  rfl
section
variable {P : Program} {w : World} {K : PySem.W.Frag} {mg : Str → Option Value} {base : Heap}
abbrev nInit : List Str := ["self", "rooms", "arrows", "pairs", "leaving", "pair"]
theorem scInit : FnScope nInit ["self", "rooms", "arrows"] (defScope sInit) := ⟨rfl, rfl, rfl, by decide +kernel, rfl, by decide +kernel, by decide +kernel⟩
theorem ok_init {f fP fG C : Addr} {fd fdP fdG : FuncData} {t1 : Tok} (F : Fun K "__init__" "Web.__init__" sInit f fd) (T : WebC K C)
    (GP : FnOk P w K mg base CX0 2 fP fdP ["rooms", "arrows"] (spPairsOf K)) (bP : Binds K fdP ["rooms", "arrows"] []) (mP : mg "pairs_of" = some (.ref fP)) (kP : PySem.W.keepIn K (.ref fP) = true)
    (GG : FnOk P w K mg base CX0 1 fG fdG ["rooms", "places"] (spGathered K)) (bG : Binds K fdG ["rooms", "places"] []) (mG : mg "gathered" = some (.ref fG)) (kG : PySem.W.keepIn K (.ref fG) = true)
    (m1 : mg "MOST_ROOMS" = some (.int 100 t1)) : FnOk P w K mg base CX0 3 f fd ["self", "rooms", "arrows"] (spInit K C) := by
  refine F.ok scInit (fun vs H Q E h => ?_) (fun cdv A outer s H vs Q E hr h => ?_)
  · obtain ⟨x, dx, a, n, as, ps, rfl, _⟩ := h
    rfl
  · obtain ⟨x, dx, a, n, as, ps, rfl, hx, hS, hA, hG, hn, hl, k⟩ := h
    have hr1 : Room 1 _ := hr.mono (by decide)
    have hlen : as.length = ps.length := Paired.length hA
    refine ⟨_, pss_cons (ps_if (pt_not (pt_chain op_le op_le pe_int (pv 1) (pe_glob (v := .int 100) rfl m1 ⟨_, rfl⟩))) pss_never pss_nil)
      (pss_cons (ps_set (i := 3) scInit.nd rfl (Or.inl rfl) (pe_call GP hr rfl mP kP bP .nil pass0 (pa_cons (pv 1) (pa_cons (pv 2) pa_nil))))
      (pss_cons (ps_set (i := 4) scInit.nd rfl (Or.inl rfl) (pe_call GG hr1 rfl mG kG bG .nil pass0 (pa_cons (pv 1) (pa_cons
          (pe_lc (own := [("pair", 5)]) (g := gName 5) (tt := tYes) rfl scInit.nd (pi_tup (pv 3)) (blkOk_by (own := [("pair", 5)]) (N := nInit) (sc := defScope sInit) (by decide +kernel)) (fun _ _ _ _ _ => pg_name (i := 5) scInit.nd rfl (Or.inl rfl)) (fun _ _ _ _ _ => pts_nil)
            (fun _ _ _ _ _ => pe_ix (ix_tupK (K := K) rfl) (pv 5) pe_int (fun _ _ => rfl))) pa_nil))))
      (pss_cons (ps_if (pt_cmpR (op_inTD (hu65 hr)) (pe_tup pa_nil) (pv 4) (by rfl)) pss_never pss_nil)
      (pss_cons (ps_fld (pv 0) (pv 1) rfl) (pss_cons (ps_fld (pv 0) (pv 3) rfl) (pss_cons (ps_fld (pv 0) (pv 4) rfl)
      (pss_one (ps_fld (pv 0) (pe_call GG hr1 rfl mG kG bG .nil pass0 (pa_cons (pv 1) (pa_cons
          (pe_lc (own := [("pair", 5)]) (g := gName 5) (tt := tYes) rfl scInit.nd (pi_tup (pv 3)) (blkOk_by (own := [("pair", 5)]) (N := nInit) (sc := defScope sInit) (by decide +kernel)) (fun _ _ _ _ _ => pg_name (i := 5) scInit.nd rfl (Or.inl rfl)) (fun _ _ _ _ _ => pts_nil)
            (fun _ _ _ _ _ => pe_ix (ix_tupK (K := K) rfl) (pv 5) pe_int (fun _ _ => rfl))) pa_nil))) rfl)))))))), ?_⟩
    have d1 : decide ((1 : Int) ≤ (n : Int)) = true := decide_eq_true (by have := hG.1; omega)
    have d2 : decide ((n : Int) ≤ (100 : Int)) = true := decide_eq_true (by omega)
    refine ⟨_, rfl, _, _, rfl, rfl, true, congrArg V.bl d1, iteT ⟨_, _, rfl, rfl, true, congrArg V.bl d2, iteF ?_⟩⟩
    -- pairs
    refine ⟨_, rfl, _, rfl, a, n, as, ps, rfl, hS, hA, hG.2.1, hl, fun H1 q bs s1 hq hP1 => ?_⟩
    have hx1 : H1 x = some (.ins C dx []) := s1 _ _ hx
    have hbl : bs.length = ps.length := Paired.length hP1
    -- leaving
    refine ⟨_, rfl, _, rfl, q, rfl, ⟨_, hq.sq⟩, fun D hD => ?_⟩
    refine lc_tup (K := K) (a := q) (xs := bs) (fun i H' => H' D = some (.lst (nums ((ps.take i).map (·.1)))) ∧ Same H1 H')
      ⟨upd_same, same_new (Same.refl H1) hD⟩ (fun i H' _ ⟨_, s'⟩ => ((Same.kp s').f hq).sq) ?_ ?_
    · rintro i y H' hy ⟨hD', s'⟩
      obtain ⟨p, c, hp, rfl, hc⟩ := pairs_get hP1 hy
      refine ⟨rfl, _, rfl, c, _, _, _, rfl, rfl, SqT.of (s' _ _ hc), rfl, _, hD', ?_, ?_, same_put s' hD⟩
      · rw [sizeLine_eq]
        simp only [nums, List.length_map]
        have := List.length_take_le' i ps
        omega
      · rw [upd_same, take_snoc hp, List.map_append]
        exact congrArg (fun l => some (HO.lst l)) (nums_snoc _ _).symm
    · rintro H2 ⟨hD2, s2⟩
      rw [hbl, List.take_length] at hD2
      have hx2 : H2 x = some (.ins C dx []) := s2 _ _ hx1
      refine ⟨D, n, ps.map (·.1), rfl, SqL.of hD2, fun r hr' => ?_, by omega, by rw [List.length_map]; omega, fun H3 lv ls s3 hlv hR3 => ?_⟩
      · obtain ⟨p, hp, e⟩ := List.mem_map.mp hr'
        rw [← e]
        exact (hG.2.1 p hp).1
      -- () in leaving
      refine ⟨Nat.zero_le _, fun U hU => ?_⟩
      have s4 : Same H3 (upd H3 U (.tup [])) := same_new (Same.refl H3) hU
      have full : (gat n (ps.map (·.1))).any (·.isEmpty) = false := gat_full fun r hr' => by
        obtain ⟨p, hp, e⟩ := hG.2.2 r hr'
        exact List.mem_map.mpr ⟨p, hp, e⟩
      refine ⟨_, rfl, .tuple [], (gat n (ps.map (·.1))).map rowD, .tup (SqT.of upd_same) .nil, .tup (SqT.of (s4 _ _ hlv)) (dp_rows (RowsIn.kp (Same.kp s4) hR3)), nil_shaped, rows_shaped _, false, ?_, iteF ?_⟩
      · rw [nil_in, full]
      have t4 : Kp H1 (upd H3 U (.tup [])) := (Same.kp s2).trans ((Same.kp s3).trans (Same.kp s4))
      have hx4 : upd H3 U (.tup []) x = some (.ins C dx []) := s4 _ _ (s3 _ _ hx2)
      have hq4 : FzT (upd H3 U (.tup [])) q bs := t4.f hq
      have hP4 : PairsIn (upd H3 U (.tup [])) bs ps := PairsIn.kp t4 hP1
      have hlv4 : upd H3 U (.tup []) lv = some (.tup ls) := s4 _ _ hlv
      have hR4 : RowsIn (upd H3 U (.tup [])) ls (gat n (ps.map (·.1))) := RowsIn.kp (Same.kp s4) hR3
      have g4 : Same H (upd H3 U (.tup [])) := s1.trans (s2.trans (s3.trans s4))
      generalize upd H3 U (.tup []) = H4 at s4 t4 hx4 hq4 hP4 hlv4 hR4 g4
      -- the three fields
      have kx : ∀ {fs fs' : List (Str × V)} {Hh : Hp}, Hh x = some (.ins C dx fs) → Kp Hh (upd Hh x (.ins C dx fs')) := fun {fs fs' Hh} h c o f e => by
        rw [upd_ne (ne_of e h (by intro z; subst z; exact f))]
        exact e
      refine ⟨_, rfl, _, rfl, x, C, dx, [], rfl, hx4, T.cl, T.nT, (by show 0 < 1000; decide), ?_⟩
      refine ⟨_, rfl, _, rfl, x, C, dx, _, rfl, upd_same, T.cl, T.nP, Nat.lt_of_lt_of_le (putF_lt (k := 1) (by simp)) (by decide), ?_⟩
      refine ⟨_, rfl, _, rfl, x, C, dx, _, rfl, upd_same, T.cl, T.nL, Nat.lt_of_lt_of_le (putF_lt (putF_lt (k := 1) (by simp))) (by decide), ?_⟩
      rw [upd_upd, upd_upd]
      have k5 := kx (fs' := putF "leaving" (.ref lv) (putF "pairs" (.ref q) (putF "room_total" (.int n) []))) hx4
      have hx5 : upd H4 x (.ins C dx (putF "leaving" (.ref lv) (putF "pairs" (.ref q) (putF "room_total" (.int n) [])))) x = some (.ins C dx (putF "leaving" (.ref lv) (putF "pairs" (.ref q) (putF "room_total" (.int n) [])))) := upd_same
      have g5 : ∀ b o, b ≠ x → H b = some o → upd H4 x (.ins C dx (putF "leaving" (.ref lv) (putF "pairs" (.ref q) (putF "room_total" (.int n) [])))) b = some o := fun b o nb h => by
        rw [upd_ne nb]
        exact g4 b o h
      have hq5 := k5.f hq4
      have hP5 := PairsIn.kp k5 hP4
      have hlv5 := k5.t hlv4
      have hR5 := RowsIn.kp k5 hR4
      generalize upd H4 x (.ins C dx (putF "leaving" (.ref lv) (putF "pairs" (.ref q) (putF "room_total" (.int n) [])))) = H5 at k5 hx5 g5 hq5 hP5 hlv5 hR5
      -- entering
      refine ⟨_, rfl, _, rfl, q, rfl, ⟨_, hq5.sq⟩, fun D2 hD2' => ?_⟩
      refine lc_tup (K := K) (a := q) (xs := bs) (fun i H' => H' D2 = some (.lst (nums ((ps.take i).map (·.2)))) ∧ Same H5 H')
        ⟨upd_same, same_new (Same.refl H5) hD2'⟩ (fun i H' _ ⟨_, s'⟩ => ((Same.kp s').f hq5).sq) ?_ ?_
      · rintro i y H' hy ⟨hD', s'⟩
        obtain ⟨p, c, hp, rfl, hc⟩ := pairs_get hP5 hy
        refine ⟨rfl, _, rfl, c, _, _, _, rfl, rfl, SqT.of (s' _ _ hc), rfl, _, hD', ?_, ?_, same_put s' hD2'⟩
        · rw [sizeLine_eq]
          simp only [nums, List.length_map]
          have := List.length_take_le' i ps
          omega
        · rw [upd_same, take_snoc hp, List.map_append]
          exact congrArg (fun l => some (HO.lst l)) (nums_snoc _ _).symm
      · rintro H6 ⟨hD6, s6⟩
        rw [hbl, List.take_length] at hD6
        refine ⟨D2, n, ps.map (·.2), rfl, SqL.of hD6, fun r hr' => ?_, by omega, by rw [List.length_map]; omega, fun H7 en es s7 hen hR7 => ?_⟩
        · obtain ⟨p, hp, e⟩ := List.mem_map.mp hr'
          rw [← e]
          exact (hG.2.1 p hp).2
        have s57 : Same H5 H7 := s6.trans s7
        have hx7 := s57 _ _ hx5
        have kk := (Same.kp s57).trans (kx (fs' := wf n q lv en) hx7)
        refine ⟨_, rfl, x, C, dx, _, rfl, hx7, T.cl, T.nE, Nat.lt_of_lt_of_le (putF_lt (putF_lt (putF_lt (k := 1) (by simp)))) (by decide), ?_⟩
        refine k _ ⟨dx, q, lv, en, bs, ls, es, upd_same, kk.f hq5, PairsIn.kp kk hP5, kk.t hlv5, RowsIn.kp kk hR5, (kx hx7).t hen, RowsIn.kp (kx hx7) hR7⟩ fun b o nb h => ?_
        rw [upd_ne nb]
        exact s57 _ _ (g5 b o nb h)
end
end KW
set_option Elab.async false
set_option maxRecDepth 100000
namespace KW
open PySem PySem.Spec PyProof.Rows L2
abbrev sRooms : Stmt := inClass sWebClass 4
abbrev sBegin : Stmt := inClass sWebClass 6
abbrev sEnd : Stmt := inClass sWebClass 7
abbrev sOuts : Stmt := inClass sWebClass 8
abbrev sIns : Stmt := inClass sWebClass 9
abbrev sLeading : Stmt := inClass sWebClass 10
abbrev sHas : Stmt := inClass sWebClass 15
abbrev sNeedA : Stmt := inClass sWebClass 19
abbrev sNeedR : Stmt := inClass sWebClass 20
def pD (p : Nat × Nat) : PyData := .tuple [.int p.1, .int p.2]
theorem pD_plain : ∀ ps : List (Nat × Nat), PyData.plainAll (ps.map pD) = true
  | [] => by simp [PyData.plainAll]
  | p :: ps => by simp [PyData.plainAll, pD, PyData.plain, pD_plain ps]
theorem dp_pairs {K : PySem.W.Frag} {H : Hp} : ∀ {as : List V} {ps : List (Nat × Nat)}, PairsIn H as ps → DpAll K H as (ps.map pD)
  | _, _, .nil => .nil
  | _, _, .cons ⟨a, e, h⟩ r => by
    rw [e]
    exact .cons (.tup (SqT.of h) (.cons (.int _) (.cons (.int _) .nil))) (dp_pairs r)
def cnt (ps : List (Nat × Nat)) (a b : Nat) : Nat := (ps.map pD).countP fun z => PyData.eqv z (.tuple [.int a, .int b])
def spHas (C : Addr) : Sp := fun vs H Q _ => ∃ (x : Addr) (n : Nat) (ps : List (Nat × Nat)) (i : Int), vs = [.ref x, .int i] ∧ WebAt C H x n ps ∧ Q (.bl (decide (0 ≤ i ∧ i < ps.length))) H
def spNeedA (C : Addr) : Sp := fun vs H Q _ => ∃ (x : Addr) (n : Nat) (ps : List (Nat × Nat)) (i : Nat), vs = [.ref x, .int i] ∧ WebAt C H x n ps ∧ i < ps.length ∧ Q .non H
def spNeedR (C : Addr) : Sp := fun vs H Q _ => ∃ (x : Addr) (n : Nat) (ps : List (Nat × Nat)) (i : Nat), vs = [.ref x, .int i] ∧ WebAt C H x n ps ∧ i < n ∧ Q .non H
def spRooms (C : Addr) : Sp := fun vs H Q _ => ∃ (x : Addr) (n : Nat) (ps : List (Nat × Nat)), vs = [.ref x] ∧ WebAt C H x n ps ∧ Q (.int n) H
def spBegin (C : Addr) : Sp := fun vs H Q _ => ∃ (x : Addr) (n : Nat) (ps : List (Nat × Nat)) (i : Nat) (p : Nat × Nat), vs = [.ref x, .int i] ∧ WebAt C H x n ps ∧ ps[i]? = some p ∧ Q (.int p.1) H
def spEnd (C : Addr) : Sp := fun vs H Q _ => ∃ (x : Addr) (n : Nat) (ps : List (Nat × Nat)) (i : Nat) (p : Nat × Nat), vs = [.ref x, .int i] ∧ WebAt C H x n ps ∧ ps[i]? = some p ∧ Q (.int p.2) H
def spOuts (C : Addr) : Sp := fun vs H Q _ => ∃ (x : Addr) (n : Nat) (ps : List (Nat × Nat)) (r : Nat), vs = [.ref x, .int r] ∧ WebAt C H x n ps ∧ r < n ∧ ∀ (H' : Hp) (l : Addr), Same H H' → H l = none → H' l = some (.lst (nums (idxs (ps.map (·.1)) r 0))) → Q (.ref l) H'
def spIns (C : Addr) : Sp := fun vs H Q _ => ∃ (x : Addr) (n : Nat) (ps : List (Nat × Nat)) (r : Nat), vs = [.ref x, .int r] ∧ WebAt C H x n ps ∧ r < n ∧ ∀ (H' : Hp) (l : Addr), Same H H' → H l = none → H' l = some (.lst (nums (idxs (ps.map (·.2)) r 0))) → Q (.ref l) H'
def spLeading (C : Addr) : Sp := fun vs H Q _ => ∃ (x : Addr) (n : Nat) (ps : List (Nat × Nat)) (r s : Nat), vs = [.ref x, .int r, .int s] ∧ WebAt C H x n ps ∧ r < n ∧ s < n ∧ ∀ H' : Hp, Same H H' → Q (.int (cnt ps r s)) H'
theorem row_at {H : Hp} {vs : List V} {ls : List (List Nat)} {i : Nat} {l : List Nat} (h : RowsIn H vs ls) (e : ls[i]? = some l) : ∃ a, vs[i]? = some (.ref a) ∧ H a = some (.tup (nums l)) := by
  induction h generalizing i with
  | nil => simp at e
  | cons x r ih =>
    cases i with
    | zero =>
      obtain ⟨a, e1, h1⟩ := x
      simp at e
      subst e
      exact ⟨a, by rw [e1]; rfl, h1⟩
    | succ i =>
      obtain ⟨a, h1, h2⟩ := ih (i := i) (by simpa using e)
      exact ⟨a, by simpa using h1, h2⟩
theorem pair_at {H : Hp} {as : List V} {ps : List (Nat × Nat)} {i : Nat} {p : Nat × Nat} (h : PairsIn H as ps) (e : ps[i]? = some p) : ∃ a, as[i]? = some (.ref a) ∧ H a = some (.tup [.int p.1, .int p.2]) := by
  induction h generalizing i with
  | nil => simp at e
  | cons x r ih =>
    cases i with
    | zero =>
      obtain ⟨a, e1, h1⟩ := x
      simp at e
      subst e
      exact ⟨a, by rw [e1]; rfl, h1⟩
    | succ i =>
      obtain ⟨a, h1, h2⟩ := ih (i := i) (by simpa using e)
      exact ⟨a, by simpa using h1, h2⟩
theorem gat_at {n r : Nat} (ps : List Nat) (h : r < n) : (gat n ps)[r]? = some (idxs ps r 0) := by
  unfold gat
  rw [List.getElem?_map, List.getElem?_range h]
  rfl
section
variable {P : Program} {w : World} {K : PySem.W.Frag} {mg : Str → Option Value} {base : Heap}
theorem scHas : FnScope ["self", "arrow"] ["self", "arrow"] (defScope sHas) := ⟨rfl, rfl, rfl, by decide +kernel, rfl, by decide +kernel, by decide +kernel⟩
theorem ok_has {f C : Addr} {fd : FuncData} (F : Fun K "has_arrow" "Web.has_arrow" sHas f fd) (T : WebC K C) (mLen : mg "len" = none) : FnOk P w K mg base CX0 1 f fd ["self", "arrow"] (spHas C) := by
  refine F.ok scHas (fun vs H Q E h => ?_) (fun cdv A outer s H vs Q E hr h => ?_)
  · obtain ⟨x, n, ps, i, rfl, _⟩ := h
    rfl
  · obtain ⟨x, n, ps, i, rfl, ⟨dx, q, lv, en, as, ls, es, hx, hq, hP, _⟩, k⟩ := h
    have hl : as.length = ps.length := Paired.length hP
    refine ⟨_, pss_one (ps_ret (pe_chain op_le op_lt pe_int (pv 1) (pe_callB call_len_seq (by rfl) mLen PySem.boot_len (pa_cons (pe_fld (pv 0) rfl) pa_nil)))), ?_⟩
    refine ⟨_, rfl, _, _, rfl, rfl, _, rfl, ?_⟩
    refine ite2 (fun h0 => ?_) (fun h0 => ?_)
    · refine ⟨_, rfl, x, C, dx, _, _, rfl, hx, T.cl, T.nP, wf_pairs _ _ _ _, q, _, rfl, .inr hq.sq, _, _, rfl, rfl, ?_⟩
      have h0' : 0 ≤ i := of_decide_eq_true h0
      have e : decide (i < ((as.length : Nat) : Int)) = decide (0 ≤ i ∧ i < ((ps.length : Nat) : Int)) := by rw [hl]; simp [h0']
      dsimp only
      rw [e]
      exact k
    · have h0' : ¬ 0 ≤ i := fun z => h0 (decide_eq_true z)
      have e : decide (0 ≤ i ∧ i < ((ps.length : Nat) : Int)) = false := by simp [h0']
      rw [e] at k
      exact k
theorem scNeedA : FnScope ["self", "arrow"] ["self", "arrow"] (defScope sNeedA) := ⟨rfl, rfl, rfl, by decide +kernel, rfl, by decide +kernel, by decide +kernel⟩
theorem wf_meth (n : Nat) (q lv en : Addr) {m : Str} (h : (decide (m = "entering") || decide (m = "leaving") || decide (m = "pairs") || decide (m = "room_total")) = false) : (wf n q lv en).lookup m = none := by
  simp only [Bool.or_eq_false_iff, decide_eq_false_iff_not] at h
  exact wf_no _ _ _ _ h.1.1.1 h.1.1.2 h.1.2 h.2
theorem ok_need_arrow {f fH C : Addr} {fd fdH : FuncData} (F : Fun K "need_arrow" "Web.need_arrow" sNeedA f fd) (T : WebC K C) (GH : FnOk P w K mg base CX0 1 fH fdH ["self", "arrow"] (spHas C)) (bH : Binds K fdH ["self", "arrow"] []) (mH : Meth K C "has_arrow" fH) :
    FnOk P w K mg base CX0 2 f fd ["self", "arrow"] (spNeedA C) := by
  refine F.ok scNeedA (fun vs H Q E h => ?_) (fun cdv A outer s H vs Q E hr h => ?_)
  · obtain ⟨x, n, ps, i, rfl, _⟩ := h
    rfl
  · obtain ⟨x, n, ps, i, rfl, W, hi, k⟩ := h
    obtain ⟨dx, q, lv, en, as, ls, es, hx, hq, hP, _⟩ := id W
    refine ⟨_, pss_one (ps_if (pt_not (pt_val (pe_meth (pv 0) T.cl mH GH hr bH .nil pass0 (pa_cons (pv 1) pa_nil)))) pss_never pss_nil), ?_⟩
    have e : decide (0 ≤ ((i : Nat) : Int) ∧ ((i : Nat) : Int) < ((ps.length : Nat) : Int)) = true := decide_eq_true ⟨by omega, by omega⟩
    exact ⟨_, rfl, x, dx, _, rfl, hx, wf_meth _ _ _ _ (by decide +kernel), _, rfl, x, n, ps, i, rfl, W, true, congrArg V.bl e, iteF k⟩
theorem scNeedR : FnScope ["self", "room"] ["self", "room"] (defScope sNeedR) := ⟨rfl, rfl, rfl, by decide +kernel, rfl, by decide +kernel, by decide +kernel⟩
theorem ok_need_room {f C : Addr} {fd : FuncData} (F : Fun K "need_room" "Web.need_room" sNeedR f fd) (T : WebC K C) : FnOk P w K mg base CX0 1 f fd ["self", "room"] (spNeedR C) := by
  refine F.ok scNeedR (fun vs H Q E h => ?_) (fun cdv A outer s H vs Q E hr h => ?_)
  · obtain ⟨x, n, ps, i, rfl, _⟩ := h
    rfl
  · obtain ⟨x, n, ps, i, rfl, ⟨dx, q, lv, en, as, ls, es, hx, hq, hP, _⟩, hi, k⟩ := h
    refine ⟨_, pss_one (ps_if (pt_not (pt_chain op_le op_lt pe_int (pv 1) (pe_fld (pv 0) rfl))) pss_never pss_nil), ?_⟩
    have d1 : decide ((0 : Int) ≤ (i : Int)) = true := decide_eq_true (by omega)
    have d2 : decide ((i : Int) < (n : Int)) = true := decide_eq_true (by omega)
    exact ⟨_, rfl, _, _, rfl, rfl, true, congrArg V.bl d1, iteT ⟨_, rfl, x, C, dx, _, _, rfl, hx, T.cl, T.nT, wf_total _ _ _ _, _, _, rfl, rfl, true, congrArg V.bl d2, iteF k⟩⟩
theorem scRooms : FnScope ["self"] ["self"] (defScope sRooms) := ⟨rfl, rfl, rfl, by decide +kernel, rfl, by decide +kernel, by decide +kernel⟩
theorem ok_rooms {f C : Addr} {fd : FuncData} (F : Fun K "rooms" "Web.rooms" sRooms f fd) (T : WebC K C) : FnOk P w K mg base CX0 1 f fd ["self"] (spRooms C) := by
  refine F.ok scRooms (fun vs H Q E h => ?_) (fun cdv A outer s H vs Q E hr h => ?_)
  · obtain ⟨x, n, ps, rfl, _⟩ := h
    rfl
  · obtain ⟨x, n, ps, rfl, ⟨dx, q, lv, en, as, ls, es, hx, hq, hP, _⟩, k⟩ := h
    exact ⟨_, pss_one (ps_ret (pe_fld (pv 0) rfl)), _, rfl, x, C, dx, _, _, rfl, hx, T.cl, T.nT, wf_total _ _ _ _, k⟩
theorem scBegin : FnScope ["self", "arrow"] ["self", "arrow"] (defScope sBegin) := ⟨rfl, rfl, rfl, by decide +kernel, rfl, by decide +kernel, by decide +kernel⟩
theorem ok_begin {f fN C : Addr} {fd fdN : FuncData} (F : Fun K "begin" "Web.begin" sBegin f fd) (T : WebC K C) (GN : FnOk P w K mg base CX0 2 fN fdN ["self", "arrow"] (spNeedA C)) (bN : Binds K fdN ["self", "arrow"] []) (mN : Meth K C "need_arrow" fN) :
    FnOk P w K mg base CX0 3 f fd ["self", "arrow"] (spBegin C) := by
  refine F.ok scBegin (fun vs H Q E h => ?_) (fun cdv A outer s H vs Q E hr h => ?_)
  · obtain ⟨x, n, ps, i, p, rfl, _⟩ := h
    rfl
  · obtain ⟨x, n, ps, i, p, rfl, W, hp, k⟩ := h
    obtain ⟨dx, q, lv, en, as, ls, es, hx, hq, hP, _⟩ := id W
    have hi : i < ps.length := (List.getElem?_eq_some_iff.mp hp).1
    obtain ⟨c, hc, hcp⟩ := pair_at hP hp
    refine ⟨_, pss_cons (ps_expr (pe_meth (pv 0) T.cl mN GN hr bN .nil pass0 (pa_cons (pv 1) pa_nil))) (pss_one (ps_ret (pe_ix ix_tup (pe_ix ix_tup (pe_fld (pv 0) rfl) (pv 1) (fun _ _ => rfl)) pe_int (fun _ _ => rfl)))), ?_⟩
    exact ⟨_, rfl, x, dx, _, rfl, hx, wf_meth _ _ _ _ (by decide +kernel), _, rfl, x, n, ps, i, rfl, W, hi, _, rfl, x, C, dx, _, _, rfl, hx, T.cl, T.nP, wf_pairs _ _ _ _, _, rfl, q, _, _, _, rfl, rfl, hq.sq, atI_nat hc, c, _, _, _, rfl, rfl, SqT.of hcp, rfl, k⟩
theorem scEnd : FnScope ["self", "arrow"] ["self", "arrow"] (defScope sEnd) := ⟨rfl, rfl, rfl, by decide +kernel, rfl, by decide +kernel, by decide +kernel⟩
theorem ok_end {f fN C : Addr} {fd fdN : FuncData} (F : Fun K "end" "Web.end" sEnd f fd) (T : WebC K C) (GN : FnOk P w K mg base CX0 2 fN fdN ["self", "arrow"] (spNeedA C)) (bN : Binds K fdN ["self", "arrow"] []) (mN : Meth K C "need_arrow" fN) :
    FnOk P w K mg base CX0 3 f fd ["self", "arrow"] (spEnd C) := by
  refine F.ok scEnd (fun vs H Q E h => ?_) (fun cdv A outer s H vs Q E hr h => ?_)
  · obtain ⟨x, n, ps, i, p, rfl, _⟩ := h
    rfl
  · obtain ⟨x, n, ps, i, p, rfl, W, hp, k⟩ := h
    obtain ⟨dx, q, lv, en, as, ls, es, hx, hq, hP, _⟩ := id W
    have hi : i < ps.length := (List.getElem?_eq_some_iff.mp hp).1
    obtain ⟨c, hc, hcp⟩ := pair_at hP hp
    refine ⟨_, pss_cons (ps_expr (pe_meth (pv 0) T.cl mN GN hr bN .nil pass0 (pa_cons (pv 1) pa_nil))) (pss_one (ps_ret (pe_ix ix_tup (pe_ix ix_tup (pe_fld (pv 0) rfl) (pv 1) (fun _ _ => rfl)) pe_int (fun _ _ => rfl)))), ?_⟩
    exact ⟨_, rfl, x, dx, _, rfl, hx, wf_meth _ _ _ _ (by decide +kernel), _, rfl, x, n, ps, i, rfl, W, hi, _, rfl, x, C, dx, _, _, rfl, hx, T.cl, T.nP, wf_pairs _ _ _ _, _, rfl, q, _, _, _, rfl, rfl, hq.sq, atI_nat hc, c, _, _, _, rfl, rfl, SqT.of hcp, rfl, k⟩
theorem scOuts : FnScope ["self", "room"] ["self", "room"] (defScope sOuts) := ⟨rfl, rfl, rfl, by decide +kernel, rfl, by decide +kernel, by decide +kernel⟩
theorem ok_outs {f fN C : Addr} {fd fdN : FuncData} (F : Fun K "outs" "Web.outs" sOuts f fd) (T : WebC K C) (GN : FnOk P w K mg base CX0 1 fN fdN ["self", "room"] (spNeedR C)) (bN : Binds K fdN ["self", "room"] []) (mN : Meth K C "need_room" fN) (mList : mg "list" = none) :
    FnOk P w K mg base CX0 2 f fd ["self", "room"] (spOuts C) := by
  refine F.ok scOuts (fun vs H Q E h => ?_) (fun cdv A outer s H vs Q E hr h => ?_)
  · obtain ⟨x, n, ps, r, rfl, _⟩ := h
    rfl
  · obtain ⟨x, n, ps, r, rfl, W, hi, k⟩ := h
    obtain ⟨dx, q, lv, en, as, ls, es, hx, hq, hP, hlv, hR, hen, hR2⟩ := id W
    obtain ⟨c, hc, hcp⟩ := row_at hR (gat_at _ hi)
    refine ⟨_, pss_cons (ps_expr (pe_meth (pv 0) T.cl mN GN hr bN .nil pass0 (pa_cons (pv 1) pa_nil))) (pss_one (ps_ret (pe_callTy call_list_of (by rfl) mList (by decide +kernel) (pa_cons (pe_ix ix_tup (pe_fld (pv 0) rfl) (pv 1) (fun _ _ => rfl)) pa_nil)))), ?_⟩
    exact ⟨_, rfl, x, dx, _, rfl, hx, wf_meth _ _ _ _ (by decide +kernel), _, rfl, x, n, ps, r, rfl, W, hi, _, rfl, x, C, dx, _, _, rfl, hx, T.cl, T.nL, wf_leaving _ _ _ _, _, rfl, lv, _, _, _, rfl, rfl, SqT.of hlv, atI_nat hc, c, _, rfl, .inr (SqT.of hcp), fun l hl =>
      k _ l (same_new (Same.refl H) hl) hl upd_same⟩
theorem scIns : FnScope ["self", "room"] ["self", "room"] (defScope sIns) := ⟨rfl, rfl, rfl, by decide +kernel, rfl, by decide +kernel, by decide +kernel⟩
theorem ok_ins {f fN C : Addr} {fd fdN : FuncData} (F : Fun K "ins" "Web.ins" sIns f fd) (T : WebC K C) (GN : FnOk P w K mg base CX0 1 fN fdN ["self", "room"] (spNeedR C)) (bN : Binds K fdN ["self", "room"] []) (mN : Meth K C "need_room" fN) (mList : mg "list" = none) :
    FnOk P w K mg base CX0 2 f fd ["self", "room"] (spIns C) := by
  refine F.ok scIns (fun vs H Q E h => ?_) (fun cdv A outer s H vs Q E hr h => ?_)
  · obtain ⟨x, n, ps, r, rfl, _⟩ := h
    rfl
  · obtain ⟨x, n, ps, r, rfl, W, hi, k⟩ := h
    obtain ⟨dx, q, lv, en, as, ls, es, hx, hq, hP, hlv, hR, hen, hR2⟩ := id W
    obtain ⟨c, hc, hcp⟩ := row_at hR2 (gat_at _ hi)
    refine ⟨_, pss_cons (ps_expr (pe_meth (pv 0) T.cl mN GN hr bN .nil pass0 (pa_cons (pv 1) pa_nil))) (pss_one (ps_ret (pe_callTy call_list_of (by rfl) mList (by decide +kernel) (pa_cons (pe_ix ix_tup (pe_fld (pv 0) rfl) (pv 1) (fun _ _ => rfl)) pa_nil)))), ?_⟩
    exact ⟨_, rfl, x, dx, _, rfl, hx, wf_meth _ _ _ _ (by decide +kernel), _, rfl, x, n, ps, r, rfl, W, hi, _, rfl, x, C, dx, _, _, rfl, hx, T.cl, T.nE, wf_entering _ _ _ _, _, rfl, en, _, _, _, rfl, rfl, SqT.of hen, atI_nat hc, c, _, rfl, .inr (SqT.of hcp), fun l hl =>
      k _ l (same_new (Same.refl H) hl) hl upd_same⟩
theorem scLeading : FnScope ["self", "one", "other"] ["self", "one", "other"] (defScope sLeading) := ⟨rfl, rfl, rfl, by decide +kernel, rfl, by decide +kernel, by decide +kernel⟩
theorem ok_leading {f fN C : Addr} {fd fdN : FuncData} (F : Fun K "leading" "Web.leading" sLeading f fd) (T : WebC K C) (GN : FnOk P w K mg base CX0 1 fN fdN ["self", "room"] (spNeedR C)) (bN : Binds K fdN ["self", "room"] []) (mN : Meth K C "need_room" fN) :
    FnOk P w K mg base CX0 2 f fd ["self", "one", "other"] (spLeading C) := by
  refine F.ok scLeading (fun vs H Q E h => ?_) (fun cdv A outer s H vs Q E hr h => ?_)
  · obtain ⟨x, n, ps, r, r2, rfl, _⟩ := h
    rfl
  · obtain ⟨x, n, ps, r, r2, rfl, W, hi, hi2, k⟩ := h
    obtain ⟨dx, q, lv, en, as, ls, es, hx, hq, hP, hlv, hR, hen, hR2⟩ := id W
    refine ⟨_, pss_cons (ps_expr (pe_meth (pv 0) T.cl mN GN hr bN .nil pass0 (pa_cons (pv 1) pa_nil))) (pss_cons (ps_expr (pe_meth (pv 0) T.cl mN GN hr bN .nil pass0 (pa_cons (pv 2) pa_nil)))
      (pss_one (ps_ret (pe_tcount (hu65 hr) (pe_fld (pv 0) rfl) (pa_cons (pe_tup (pa_cons (pv 1) (pa_cons (pv 2) pa_nil))) pa_nil))))), ?_⟩
    refine ⟨_, rfl, x, dx, _, rfl, hx, wf_meth _ _ _ _ (by decide +kernel), _, rfl, x, n, ps, r, rfl, W, hi, _, rfl, x, dx, _, rfl, hx, wf_meth _ _ _ _ (by decide +kernel), _, rfl, x, n, ps, r2, rfl, W, hi2, ?_⟩
    refine ⟨_, rfl, x, C, dx, _, _, rfl, hx, T.cl, T.nP, wf_pairs _ _ _ _, q, _, rfl, hq, _, rfl, _, rfl, by show 2 ≤ sizeLine; decide, fun U hU => ?_⟩
    exact ⟨q, _, .tuple [.int r, .int r2], ps.map pD, rfl, rfl, .tup ((Kp.new hU).f hq).sq (dp_pairs (PairsIn.kp (Kp.new hU) hP)), .tup (SqT.of upd_same) (.cons (.int _) (.cons (.int _) .nil)), pD_plain ps, rfl, (by show 1 ≤ 64; decide), k _ (same_new (Same.refl H) hU)⟩
end
end KW
set_option Elab.async false
set_option maxRecDepth 100000
namespace KW
open PySem PySem.Spec PyProof.Rows L2
theorem good_perm {n : Nat} {ps qs : List (Nat × Nat)} (h : qs.Perm ps) (g : Good n ps) : Good n qs := by
  obtain ⟨h1, h2, h3⟩ := g
  refine ⟨h1, fun p hp => h2 p (h.mem_iff.mp hp), fun r hr => ?_⟩
  obtain ⟨p, hp, e⟩ := h3 r hr
  exact ⟨p, h.mem_iff.mpr hp, e⟩
section
variable {P : Program} {w : World} {K : PySem.W.Frag} {mg : Str → Option Value} {base : Heap}
theorem scWeb : FnScope ["_law_bag_here", "_law_rooms_most", "_law_more_most", "_law_rooms", "_law_pairs", "_law_k", "_law_room"] ["_law_bag_here", "_law_rooms_most", "_law_more_most"] (defScope sWeb) := ⟨rfl, rfl, rfl, by decide +kernel, rfl, by decide +kernel, by decide +kernel⟩
theorem ok_web {f fP fM : Addr} {fd fdP fdM : FuncData} (F : Fun K "_law_web" "_law_web" sWeb f fd) (GP : FnOk P w K mg base CX0 1 fP fdP ["_law_bag_here", "_law_many"] spPull) (bP : Binds K fdP ["_law_bag_here", "_law_many"] []) (mP : mg "_law_pull" = some (.ref fP)) (kP : PySem.W.keepIn K (.ref fP) = true)
    (GM : FnOk P w K mg base CX0 2 fM fdM ["_law_bag_here", "_law_some"] (spMixed K)) (bM : Binds K fdM ["_law_bag_here", "_law_some"] []) (mM : mg "_law_mixed" = some (.ref fM)) (kM : PySem.W.keepIn K (.ref fM) = true)
    (mRange : mg "range" = none) (mTuple : mg "tuple" = none) : FnOk P w K mg base CX0 3 f fd ["_law_bag_here", "_law_rooms_most", "_law_more_most"] spWeb := by
  refine F.ok scWeb (fun vs H Q E h => ?_) (fun cdv A outer s H vs Q E hr h => ?_)
  · obtain ⟨b, l, ns, rm, mm, rfl, _⟩ := h
    rfl
  · obtain ⟨b, l, ns, rm, mm, rfl, B, hrm, hrm2, hmm, k⟩ := h
    have hr1 : Room 1 _ := hr.mono (by decide)
    refine ⟨_, pss_cons (ps_set (i := 3) scWeb.nd rfl (Or.inr rfl) (pe_op op_add pe_int (pe_call GP hr1 rfl mP kP bP .nil pass0 (pa_cons (pv 0) (pa_cons (pv 1) pa_nil)))))
      (pss_cons (ps_setLc (i := 4) (own := [("_law_room", 6)]) (g := gName 6) (tt := tYes) rfl scWeb.nd rfl rfl (sw_true rfl rfl rfl (by decide +kernel)) (pi_range1 (by rfl) mRange (pa_cons (pv 3) pa_nil))
          (blkOk_by (own := [("_law_room", 6)]) (N := ["_law_bag_here", "_law_rooms_most", "_law_more_most", "_law_rooms", "_law_pairs", "_law_k", "_law_room"]) (sc := defScope sWeb) (by decide +kernel))
          (fun _ _ _ _ _ => pg_name (i := 6) scWeb.nd rfl (Or.inl rfl)) (fun _ _ _ _ _ => pts_nil)
          (fun _ _ _ _ _ => pe_tup (pa_cons (pv 6) (pa_cons (pe_call GP hr1 rfl mP kP bP .nil pass0 (pa_cons (pv 0) (pa_cons (pv 3) pa_nil))) pa_nil))))
      (pss_cons (ps_for PassesOwn.never rfl (pi_range1 (by rfl) mRange (pa_cons (pe_call GP hr1 rfl mP kP bP .nil pass0 (pa_cons (pv 0) (pa_cons (pe_op op_add (pv 2) pe_int) pa_nil))) pa_nil)) (pg_name (i := 5) scWeb.nd rfl (Or.inl rfl))
        (pss_one (ps_expr (pe_bm PySem.F.plainAttrs_list PySem.F.slot_list_append PySem.F.type_list_append mt_append (pv 4) (pa_cons
          (pe_tup (pa_cons (pe_call GP hr1 rfl mP kP bP .nil pass0 (pa_cons (pv 0) (pa_cons (pv 3) pa_nil))) (pa_cons (pe_call GP hr1 rfl mP kP bP .nil pass0 (pa_cons (pv 0) (pa_cons (pv 3) pa_nil))) pa_nil))) pa_nil)))))
      (pss_one (ps_ret (pe_tup (pa_cons (pv 3) (pa_cons (pe_callTy call_tupleF (by rfl) mTuple (by decide +kernel) (pa_cons (pe_call GM hr rfl mM kM bM .nil pass0 (pa_cons (pv 0) (pa_cons (pv 4) pa_nil))) pa_nil)) pa_nil))))))), ?_⟩
    -- rooms
    refine ⟨_, rfl, _, rfl, b, l, ns, _, rfl, B, by omega, by omega, fun H1 r1 h0 h1 O1 B1 => ?_⟩
    obtain ⟨j, rfl⟩ := Int.eq_ofNat_of_zero_le h0
    obtain ⟨n, hn⟩ : ∃ n : Nat, n = 1 + j := ⟨_, rfl⟩
    have hnn : ((1 : Int) + (j : Int)) = (n : Int) := by omega
    refine ⟨_, _, rfl, rfl, ?_⟩
    dsimp only
    rw [hnn]
    -- pairs
    refine ⟨_, rfl, _, rfl, by omega, by omega, fun D hD => ?_⟩
    refine lc_range (lo := 0) (n := n) (fun i H' => ∃ (as : List V) (ps : List (Nat × Nat)), H' D = some (.lst as) ∧ PairsIn H' as ps ∧ ps.map (·.1) = List.range i ∧ (∀ p ∈ ps, p.1 < n ∧ p.2 < n) ∧ BagAt b l ns H' ∧ Grow b H1 H')
      ⟨[], [], upd_same, .nil, rfl, fun p hp => absurd hp (by simp), B1.new hD, (Grow.refl b H1).new hD⟩ ?_ ?_
    · rintro i H' hi ⟨as, ps, hA, hP, hps, hb, B', G'⟩
      refine ⟨rfl, _, rfl, _, rfl, _, rfl, b, l, ns, _, rfl, B', by omega, by omega, fun H2 r h0 h1 O2 B2 => ⟨by show 2 ≤ sizeLine; decide, fun T hT => ?_⟩⟩
      obtain ⟨m, rfl⟩ := Int.eq_ofNat_of_zero_le h0
      have nbD : b ≠ D := B1.nb hD
      have nlD : l ≠ D := B1.nl hD
      have hA2 : H2 D = some (.lst as) := by rw [O2 D nbD.symm]; exact hA
      have nDT : D ≠ T := ne_of_none hA2 hT
      obtain ⟨xs, hbl⟩ := B'.list
      have hlen : as.length = i := by
        rw [Paired.length hP, ← List.length_map (f := (·.1)), hps, List.length_range]
      refine ⟨as, Eq.trans (upd_ne nDT) hA2, by rw [sizeLine_eq]; omega, as ++ [.ref T], ps ++ [(i, m)], upd_same, ?_, ?_, ?_, (B2.new hT).other nbD nlD, ?_⟩
      · have k1 : Kp H' (upd (upd H2 T (.tup [.int (0 + (i : Nat)), .int (m : Nat)])) D (.lst (as ++ [.ref T]))) := ((Kp.off hbl O2).trans (Kp.new hT)).trans (Kp.put (Eq.trans (upd_ne nDT) hA2))
        refine paired_snoc (PairsIn.kp k1 hP) ⟨T, rfl, ?_⟩
        rw [upd_ne nDT.symm, upd_same]
        show some (HO.tup [.int (0 + (i : Int)), .int (m : Int)]) = some (HO.tup [.int (i : Int), .int (m : Int)])
        rw [Int.zero_add]
      · rw [List.map_append, hps, List.range_succ]
        rfl
      · intro p hp
        rcases List.mem_append.mp hp with q | q
        · exact hb p q
        · have e : p = (i, m) := by simpa using q
          subst e
          exact ⟨hi, by omega⟩
      · intro a o na e
        have nT : H1 T = none := by
          cases q : H1 T with
          | none => rfl
          | some u =>
            have nTb : T ≠ b := fun z => by
              obtain ⟨ys, hy⟩ := B2.list
              rw [z, hy] at hT
              cases hT
            have := O2.grow T u nTb (G' T u nTb q)
            rw [this] at hT
            cases hT
        rw [upd_ne (ne_of_none e hD), upd_ne (ne_of_none e nT)]
        exact O2.grow a o na (G' a o na e)
    · rintro H2 ⟨as, ps, hA, hP, hps, hb, B2, G2⟩
      have hbD : H1 D = none := hD
      have nbD : b ≠ D := B1.nb hD
      have nlD : l ≠ D := B1.nl hD
      have hpl : ps.length = n := by rw [← List.length_map (f := (·.1)), hps, List.length_range]
      refine ⟨_, rfl, _, rfl, _, _, rfl, rfl, b, l, ns, _, rfl, B2, by omega, by omega, fun H3 r3 h0 h3 O3 B3 => ?_⟩
      obtain ⟨m, rfl⟩ := Int.eq_ofNat_of_zero_le h0
      obtain ⟨x2, hx2⟩ := B2.list
      have hA3 : H3 D = some (.lst as) := by rw [O3 D nbD.symm]; exact hA
      refine ⟨_, rfl, by omega, by omega, for_range (lo := 0) (n := m) (fun i σ H' => ∃ (v : Option V) (as : List V) (ps : List (Nat × Nat)), σ = [some (.ref b), some (.int rm), some (.int mm), some (.int n), some (.ref D), v, none] ∧ H' D = some (.lst as) ∧ PairsIn H' as ps ∧ Good n ps ∧ ps.length ≤ n + i ∧ BagAt b l ns H' ∧ Grow b H1 H')
        ⟨none, as, ps, rfl, hA3, PairsIn.kp (Kp.off hx2 O3) hP, ⟨by omega, hb, fun r hr' => ?_⟩, by omega, B3, G2.trans O3.grow⟩ ?_ ?_⟩
      · have hm : r ∈ ps.map (·.1) := by rw [hps]; exact List.mem_range.mpr hr'
        obtain ⟨p, hp, e⟩ := List.mem_map.mp hm
        exact ⟨p, hp, e⟩
      · rintro i σ H' hi ⟨v, as, ps, rfl, hA, hP, hG, hl, B', G'⟩
        refine ⟨_, rfl, .inl ⟨rfl, _, SqL.of hA⟩, _, rfl, _, rfl, b, l, ns, _, rfl, B', by omega, by omega, fun H4 r4 h04 h4 O4 B4 => ?_⟩
        refine ⟨_, rfl, _, rfl, b, l, ns, _, rfl, B4, by omega, by omega, fun H5 r5 h05 h5 O5 B5 => ⟨by show 2 ≤ sizeLine; decide, fun T hT => ?_⟩⟩
        obtain ⟨u, rfl⟩ := Int.eq_ofNat_of_zero_le h04
        obtain ⟨v5, rfl⟩ := Int.eq_ofNat_of_zero_le h05
        have hA5 : H5 D = some (.lst as) := by rw [O5 D nbD.symm, O4 D nbD.symm]; exact hA
        have nDT : D ≠ T := ne_of_none hA5 hT
        obtain ⟨x4, hx4⟩ := B'.list
        obtain ⟨x5, hx5⟩ := B4.list
        have hlen : as.length = ps.length := Paired.length hP
        have k1 : Kp H' (upd (upd H5 T (.tup [.int (u : Nat), .int (v5 : Nat)])) D (.lst (as ++ [.ref T]))) := (((Kp.off hx4 O4).trans (Kp.off hx5 O5)).trans (Kp.new hT)).trans (Kp.put (Eq.trans (upd_ne nDT) hA5))
        refine ⟨D, as, _, rfl, rfl, Eq.trans (upd_ne nDT) hA5, by rw [sizeLine_eq]; omega, ?_⟩
        refine ⟨_, as ++ [.ref T], ps ++ [(u, v5)], rfl, upd_same, paired_snoc (PairsIn.kp k1 hP) ⟨T, rfl, by rw [upd_ne nDT.symm, upd_same]⟩, ⟨hG.1, ?_, fun r hr' => ?_⟩, by rw [List.length_append, List.length_singleton]; omega, (B5.new hT).other nbD nlD, ?_⟩
        · intro p hp
          rcases List.mem_append.mp hp with q | q
          · exact hG.2.1 p q
          · have e : p = (u, v5) := by simpa using q
            subst e
            exact ⟨by omega, by omega⟩
        · obtain ⟨p, hp, e⟩ := hG.2.2 r hr'
          exact ⟨p, List.mem_append_left _ hp, e⟩
        · intro a o na e
          have e5 : H5 a = some o := O5.grow a o na (O4.grow a o na (G' a o na e))
          rw [upd_ne (ne_of_none e hbD), upd_ne (ne_of_none e5 hT)]
          exact e5
      · rintro σ H' ⟨v, as, ps, rfl, hA, hP, hG, hl, B', G'⟩
        have hlen : as.length = ps.length := Paired.length hP
        refine ⟨_, rfl, _, rfl, _, rfl, b, l, D, ns, as, rfl, B', SqL.of hA, by omega, fun H6 p6 ys G6 n6 h6 hperm B6 => ?_⟩
        refine ⟨p6, ys, rfl, SqL.of h6, fun q oq hq hdq => ⟨by show 2 ≤ sizeLine; decide, fun t ht => ?_⟩⟩
        obtain ⟨x6, hx6⟩ := B'.list
        obtain ⟨qs, hq1, hq2⟩ := paired_perm hperm (PairsIn.kp (Kp.grow hx6 G6) hP)
        have nqt : q ≠ t := fun e => by
          rw [← e, upd_same] at ht
          cases ht
        have ht6 : H6 t = none := by
          rw [upd_ne nqt.symm] at ht
          exact ht
        refine k _ t n qs ?_ ⟨q, ys, upd_same, ⟨oq, by rw [upd_ne nqt, upd_same], hdq⟩, PairsIn.kp ((Kp.new hq).trans (Kp.new ht)) hq1, good_perm hq2 hG⟩ (by omega) (by rw [hq2.length_eq]; omega) ((B6.new hq).new ht)
        intro a o na e
        have e6 : H6 a = some o := G6 a o na (G' a o na (O1.grow a o na e))
        rw [upd_ne (ne_of_none e6 ht6), upd_ne (ne_of_none e6 hq)]
        exact e6
end
end KW
set_option Elab.async false
set_option maxRecDepth 100000
namespace KW
open PySem PySem.Spec PyProof.Rows L2
theorem get_ref {fs : List Addr} {r : Nat} (h : r < fs.length) : (fs.map V.ref)[r]? = some (.ref fs[r]) := by
  rw [List.getElem?_map, List.getElem?_eq_getElem h]
  rfl
theorem nodup_snoc {α : Type} {l : List α} {a : α} (h : l.Nodup) (n : a ∉ l) : (l ++ [a]).Nodup := by
  rw [List.nodup_append]
  refine ⟨h, by simp, fun x hx y hy => ?_⟩
  have e : y = a := by simpa using hy
  subst e
  exact fun z => n (z ▸ hx)
section
variable {P : Program} {w : World} {K : PySem.W.Frag} {mg : Str → Option Value} {base : Heap}
abbrev nGathered : List Str := ["rooms", "places", "room", "found", "arrow", "arrows"]
theorem scGathered : FnScope nGathered ["rooms", "places"] (defScope sGathered) := ⟨rfl, rfl, rfl, by decide +kernel, rfl, by decide +kernel, by decide +kernel⟩
theorem ok_gathered {f : Addr} {fd : FuncData} (F : Fun K "gathered" "gathered" sGathered f fd) (mRange : mg "range" = none) (mEnum : mg "enumerate" = none) (mTuple : mg "tuple" = none) : FnOk P w K mg base CX0 1 f fd ["rooms", "places"] (spGathered K) := by
  refine F.ok scGathered (fun vs H Q E h => ?_) (fun cdv A outer s H vs Q E hr h => ?_)
  · obtain ⟨a, n, ps, rfl, _⟩ := h
    rfl
  · obtain ⟨a, n, ps, rfl, hS, hb, hn, hl, k⟩ := h
    refine ⟨_, pss_cons (ps_setLc (i := 3) (own := [("room", 2)]) (g := gName 2) (tt := tYes) rfl scGathered.nd rfl rfl (sw_true rfl rfl rfl (by decide +kernel)) (pi_range1 (by rfl) mRange (pa_cons (pv 0) pa_nil))
          (blkOk_by (own := [("room", 2)]) (N := nGathered) (sc := defScope sGathered) (by decide +kernel)) (fun _ _ _ _ _ => pg_name (i := 2) scGathered.nd rfl (Or.inl rfl)) (fun _ _ _ _ _ => pts_nil) (fun _ _ _ _ _ => pe_lst pa_nil))
      (pss_cons (ps_for PassesOwn.never rfl (pi_enum (by rfl) mEnum (pa_cons (pv 1) pa_nil)) (pg_tup rfl (pgs_cons (pg_name (i := 4) scGathered.nd rfl (Or.inl rfl)) (pgs_cons (pg_name (i := 2) scGathered.nd rfl (Or.inl rfl)) pgs_nil)))
        (pss_one (ps_expr (pe_bm PySem.F.plainAttrs_list PySem.F.slot_list_append PySem.F.type_list_append mt_append (pe_ix ix_list (pv 3) (pv 2) (fun _ _ => rfl)) (pa_cons (pv 4) pa_nil)))))
      (pss_one (ps_ret (pe_callTy call_tuple_of (by rfl) mTuple (by decide +kernel) (pa_cons (pe_lc (own := [("arrows", 5)]) (g := gName 5) (tt := tYes) rfl scGathered.nd (pi_list (pv 3))
          (blkOk_by (own := [("arrows", 5)]) (N := nGathered) (sc := defScope sGathered) (by decide +kernel)) (fun _ _ _ _ _ => pg_name (i := 5) scGathered.nd rfl (Or.inl rfl)) (fun _ _ _ _ _ => pts_nil)
          (fun _ _ _ _ _ => pe_callTy (call_tupleK (K := K) rfl) (by rfl) mTuple boot_tuple' (pa_cons (pv 5) pa_nil))) pa_nil))))), ?_⟩
    refine ⟨_, rfl, _, rfl, by omega, by omega, fun D hD => ?_⟩
    refine lc_range (lo := 0) (n := n) (fun i H' => ∃ fs : List Addr, H' D = some (.lst (fs.map V.ref)) ∧ fs.length = i ∧ fs.Nodup ∧ (∀ c ∈ fs, H c = none ∧ c ≠ D ∧ H' c = some (.lst [])) ∧ Same H H')
      ⟨[], upd_same, rfl, List.nodup_nil, fun c hc => absurd hc (by simp), same_new (Same.refl H) hD⟩ ?_ ?_
    · rintro i H' hi ⟨fs, hF, hfl, hnd, hf, s'⟩
      refine ⟨rfl, Nat.zero_le _, fun p hp => ?_⟩
      have nDp : D ≠ p := ne_of_none hF hp
      refine ⟨_, Eq.trans (upd_ne nDp) hF, by rw [sizeLine_eq, List.length_map]; omega, fs ++ [p], by rw [upd_same, List.map_append]; rfl, by rw [List.length_append, hfl]; rfl, ?_, ?_, same_put (same_new s' hp) hD⟩
      · refine nodup_snoc hnd fun z => ?_
        rw [(hf p z).2.2] at hp
        cases hp
      · intro c hc
        rcases List.mem_append.mp hc with q | q
        · obtain ⟨h1, h2, h3⟩ := hf c q
          exact ⟨h1, h2, by rw [upd_ne h2, upd_ne (ne_of_none h3 hp)]; exact h3⟩
        · have e : c = p := by simpa using q
          subst e
          exact ⟨s'.free hp, nDp.symm, by rw [upd_ne nDp.symm, upd_same]⟩
    · rintro H1 ⟨fs, hF, hfl, hnd, hf, s1⟩
      have fsN : ∀ r (h : r < fs.length), H fs[r] = none ∧ fs[r] ≠ D := fun r h => ⟨(hf _ (List.getElem_mem h)).1, (hf _ (List.getElem_mem h)).2.1⟩
      have pl : (nums ps).length = ps.length := by simp [nums]
      refine ⟨_, rfl, a, _, rfl, s1.seq hS, for_it (walk_enum (K := K) (a := a) (xs := nums ps)) (fun i σ H' => ∃ (v1 v2 : Option V), σ = [some (.int n), some (.ref a), v1, some (.ref D), v2, none] ∧ H' D = some (.lst (fs.map V.ref)) ∧ (∀ r (h : r < fs.length), H' fs[r] = some (.lst (nums (idxs (ps.take i) r 0)))) ∧ Same H H')
        ⟨none, none, rfl, hF, fun r h => (hf _ (List.getElem_mem h)).2.2, s1⟩ (fun i σ H' _ ⟨_, _, _, _, _, s'⟩ => s'.seq hS) ?_ ?_⟩
      · rintro i x σ H' H2 hi ⟨v1, v2, rfl, hF', hR, s'⟩ ⟨T, x1, x2, rfl, hT, rfl, e1, e2⟩
        have e1 : V.int (i : Nat) = x1 := Option.some.inj e1
        subst e1
        have hi' : i < ps.length := by omega
        have hp : ps[i]? = some ps[i] := List.getElem?_eq_getElem hi'
        have e2 : V.int (ps[i] : Nat) = x2 := by
          have q : (nums ps)[i]? = some x2 := e2
          unfold nums at q
          rw [List.getElem?_map, hp] at q
          exact Option.some.inj q
        subst e2
        generalize hr' : ps[i] = r at hp
        have hrn : r < fs.length := by
          rw [hfl, ← hr']
          exact hb _ (List.getElem_mem hi')
        have nT : ∀ {c : Addr} {o : HO}, H' c = some o → c ≠ T := fun h => ne_of_none h hT
        have hF2 : upd H' T (.tup [.int (i : Nat), .int (r : Nat)]) D = some (.lst (fs.map V.ref)) := by rw [upd_ne (nT hF')]; exact hF'
        have hR2 : ∀ q (h : q < fs.length), upd H' T (.tup [.int (i : Nat), .int (r : Nat)]) fs[q] = some (.lst (nums (idxs (ps.take i) q 0))) := fun q h => by rw [upd_ne (nT (hR q h))]; exact hR q h
        refine ⟨T, _, rfl, SqT.of upd_same, rfl, _, _, rfl, _, _, rfl, rfl, ?_⟩
        refine ⟨_, rfl, _, rfl, D, _, _, _, rfl, rfl, SqL.of hF2, atI_nat (get_ref hrn), .inl ⟨rfl, _, SqL.of (hR2 r hrn)⟩, _, rfl, fs[r], _, _, rfl, rfl, hR2 r hrn, ?_, ?_⟩
        · have := idxs_len r (ps.take i) 0
          have := List.length_take_le' i ps
          rw [sizeLine_eq]
          simp only [nums, List.length_map]
          omega
        · refine ⟨_, _, rfl, by rw [upd_ne (fsN r hrn).2.symm]; exact hF2, fun q h => ?_, same_put (same_new s' hT) (fsN r hrn).1⟩
          have et : ps.take (i + 1) = ps.take i ++ [r] := by
            rw [List.take_succ, hp]
            rfl
          have tl : (ps.take i).length = i := by rw [List.length_take]; omega
          rw [et, idxs_snoc, tl, Nat.zero_add]
          by_cases e : q = r
          · subst e
            rw [upd_same, if_pos rfl, nums_snoc]
          · have ne : fs[q] ≠ fs[r] := fun z => e ((List.getElem_inj hnd).mp z)
            rw [upd_ne ne, if_neg (fun z => e z.symm), List.append_nil]
            exact hR2 q h
      · rintro σ H' ⟨v1, v2, rfl, hF', hR, s'⟩
        rw [pl, List.take_length] at hR
        refine ⟨_, rfl, D, rfl, ⟨_, SqL.of hF'⟩, fun D2 hD2 => ?_⟩
        have nD2 : D ≠ D2 := ne_of_none hF' hD2
        refine lc_list (K := K) (a := D) (xs := fs.map V.ref) (fun i H2 => ∃ vs : List V, H2 D2 = some (.lst vs) ∧ RowsIn H2 vs ((gat n ps).take i) ∧ (∀ c o, H' c = some o → H2 c = some o))
          ⟨[], upd_same, .nil, fun c o h => by rw [upd_ne (ne_of_none h hD2)]; exact h⟩ (fun i H2 _ ⟨_, _, _, g⟩ => SqL.of (g D _ hF')) ?_ ?_
        · rintro i x H2 hx ⟨vs, hV, hRw, g⟩
          obtain ⟨hi, rfl⟩ : ∃ h : i < fs.length, x = .ref fs[i] := by
            have hlt := (List.getElem?_eq_some_iff.mp hx).1
            rw [List.length_map] at hlt
            rw [get_ref hlt] at hx
            exact ⟨hlt, (Option.some.inj hx).symm⟩
          refine ⟨rfl, _, rfl, fs[i], _, rfl, .inl ⟨SqL.of (g _ _ (hR i hi)), fun U hU => ?_⟩⟩
          have nU : D2 ≠ U := ne_of_none hV hU
          have vl : vs.length ≤ 1000 := by
            rw [Paired.length hRw]
            have := List.length_take_le' i (gat n ps)
            rw [gat_len] at this
            omega
          refine ⟨vs, Eq.trans (upd_ne nU) hV, by rw [sizeLine_eq]; omega, vs ++ [.ref U], upd_same, ?_, fun c o h => ?_⟩
          · have hgi : (gat n ps)[i]? = some (idxs ps i 0) := by
              unfold gat
              rw [List.getElem?_map, List.getElem?_range (by omega)]
              rfl
            have et : (gat n ps).take (i + 1) = (gat n ps).take i ++ [idxs ps i 0] := by
              rw [List.take_succ, hgi]
              rfl
            rw [et]
            refine paired_snoc (RowsIn.kp ((Kp.new hU).trans (Kp.put (Eq.trans (upd_ne nU) hV))) hRw) ⟨U, rfl, ?_⟩
            rw [upd_ne nU.symm, upd_same]
          · have h2 := g c o h
            rw [upd_ne (ne_of_none h hD2), upd_ne (ne_of_none h2 hU)]
            exact h2
        · rintro H2 ⟨vs, hV, hRw, g⟩
          rw [List.length_map, hfl] at hRw
          have et : (gat n ps).take n = gat n ps := List.take_of_length_le (by rw [gat_len]; exact Nat.le_refl _)
          rw [et] at hRw
          exact ⟨D2, vs, rfl, .inl ⟨SqL.of hV, fun q hq => k _ q vs (same_new (fun c o h => g c o (s' c o h)) hq) upd_same (RowsIn.kp (Kp.new hq) hRw)⟩⟩
end
end KW
set_option Elab.async false
set_option maxRecDepth 100000
set_option maxHeartbeats 1000000
namespace KW
open PySem PySem.Spec PyProof.Rows L2
def w1 (s : Str) : List (Str × V) := [(("word" : Str), .str s)]
/-- a refusal of the class C reaches E: its word, its fields -/
def Refuse (C : Addr) (word : Str) (fld : List (Str × V)) (H : Hp) (E : XK) : Prop := ∀ (d : Addr) (fs : List (Str × V)) (H' : Hp), Same H H' → H d = none → H' d = some (.xd fs) → fs.lookup ("word" : Str) = some (.str word) → (∀ p ∈ fld, fs.lookup p.1 = some p.2) → E (.ref C) (some d) H'
theorem Refuse.same {C : Addr} {word : Str} {fld : List (Str × V)} {H H1 : Hp} {E : XK} (s : Same H H1) (r : Refuse C word fld H E) : Refuse C word fld H1 E := fun d fs H' s' n h1 h2 h3 => r d fs H' (s.trans s') (s.free n) h1 h2 h3
end KW
set_option Elab.async false
set_option maxRecDepth 100000
set_option maxHeartbeats 1000000
namespace KW
open PySem PySem.Spec PyProof.Rows L2
theorem WebAt.same {C : Addr} {H H' : Hp} {x : Addr} {n : Nat} {ps : List (Nat × Nat)} (s : Same H H') (h : WebAt C H x n ps) : WebAt C H' x n ps := by
  obtain ⟨dx, q, lv, en, as, ls, es, h1, h2⟩ := id h
  exact h.to (Same.kp s) ((s _ _ h1).trans h1.symm)
end KW
set_option Elab.async false
set_option maxRecDepth 100000
namespace KW
open PySem PySem.Spec PyProof.Rows L2
abbrev sLNaming : Stmt := topS 34
section
variable {P : Program} {w : World} {K : PySem.W.Frag} {mg : Str → Option Value} {base : Heap}
theorem scNaming : FnScope ["_law_bag_here", "_law_w"] ["_law_bag_here", "_law_w"] (defScope sLNaming) := ⟨rfl, rfl, rfl, by decide +kernel, rfl, by decide +kernel, by decide +kernel⟩
end
end KW
set_option Elab.async false
set_option maxRecDepth 100000
set_option maxHeartbeats 2000000
namespace KW
open PySem PySem.Spec PyProof.Rows L2
theorem met_nodup (val : Nat → Int) : ∀ i, (firstMet val i).Nodup
  | 0 => by
    rw [firstMet_zero]
    exact List.Pairwise.nil
  | i + 1 => by
    rw [firstMet_succ]
    unfold step_dedup
    split
    · exact met_nodup val i
    · rename_i no
      have sw : (firstMet val i ++ [val i]).Perm (val i :: firstMet val i) := List.perm_append_singleton ..
      refine sw.nodup_iff.mpr (List.nodup_cons.mpr ⟨fun inside => no (List.any_eq_true.mpr ⟨_, inside, beq_self_eq_true _⟩), met_nodup val i⟩)
theorem met_mem (ns : List Int) (k : Int) : k ∈ firstMet (fun i => ns.getD i 0) ns.length ↔ k ∈ ns := by
  have e : (List.range ns.length).map (fun i => ns.getD i 0) = ns := by
    refine List.ext_getElem? fun r => ?_
    rw [List.getElem?_map]
    by_cases h : r < ns.length
    · rw [List.getElem?_range h]
      show some (ns.getD r 0) = _
      rw [List.getD_eq_getElem?_getD, List.getElem?_eq_getElem h]
      rfl
    · rw [List.getElem?_eq_none (by rw [List.length_range]; omega), List.getElem?_eq_none (by omega)]
      rfl
  have z := firstMet_any (fun i => ns.getD i 0) ns.length k
  rw [e] at z
  have go : ∀ l : List Int, l.any (· == k) = true ↔ k ∈ l := fun l => by
    rw [List.any_eq_true]
    constructor
    · rintro ⟨y, hy, ey⟩
      rw [← eq_of_beq ey]
      exact hy
    · intro h
      exact ⟨k, h, beq_self_eq_true k⟩
  rw [← go, z, go]
end KW
set_option Elab.async false
set_option maxRecDepth 100000
set_option maxHeartbeats 2000000
namespace KW
open PySem PySem.Spec PyProof.Rows L2
theorem idxs_lt (r : Nat) : ∀ (ps : List Nat) (k a : Nat), a ∈ idxs ps r k → k ≤ a ∧ a < k + ps.length
  | [], _, _, h => absurd h (by simp [idxs])
  | p :: ps, k, a, h => by
    unfold idxs at h
    have go : a ∈ idxs ps r (k + 1) → k ≤ a ∧ a < k + (p :: ps).length := fun h => by
      have z := idxs_lt r ps (k + 1) a h
      rw [List.length_cons]
      omega
    split at h
    · rcases List.mem_cons.mp h with e | h
      · rw [e, List.length_cons]
        omega
      · exact go h
    · exact go h
theorem rowsF_len {ps : List (Nat × Nat)} : ∀ {k : Nat} {r : List Nat}, r ∈ rowsF ps k → r.length = k + 1
  | 0, r, h => by
    obtain ⟨a, _, e⟩ := List.mem_map.mp h
    rw [← e]
    rfl
  | k + 1, r, h => by
    obtain ⟨q, h1, h2⟩ := List.mem_flatMap.mp h
    obtain ⟨a, _, e⟩ := List.mem_map.mp h2
    rw [← e, List.length_append, rowsF_len h1]
    rfl
theorem rowsF_lt {ps : List (Nat × Nat)} : ∀ {k : Nat} {r : List Nat}, r ∈ rowsF ps k → ∀ a ∈ r, a < ps.length
  | 0, r, h, a, ha => by
    obtain ⟨b, hb, e⟩ := List.mem_map.mp h
    rw [← e, List.mem_singleton] at ha
    rw [ha]
    exact List.mem_range.mp hb
  | k + 1, r, h, a, ha => by
    obtain ⟨q, h1, h2⟩ := List.mem_flatMap.mp h
    obtain ⟨b, hb, e⟩ := List.mem_map.mp h2
    rw [← e] at ha
    rcases List.mem_append.mp ha with z | z
    · exact rowsF_lt h1 a z
    · rw [List.mem_singleton.mp z]
      have y := (idxs_lt _ _ _ _ hb).2
      rw [List.length_map] at y
      omega
theorem last_mem {r : List Nat} (h : r ≠ []) : r.getLastD 0 ∈ r := by
  rw [List.getLastD_eq_getLast?, List.getLast?_eq_some_getLast h]
  exact List.getLast_mem h
end KW
set_option Elab.async false
set_option maxRecDepth 100000
namespace KW
/-- p is a period from N on -/
def Per (s : Nat → Nat) (N p : Nat) : Prop := ∀ i, N ≤ i → s (i + p) = s i
theorem Per.mono {s : Nat → Nat} {N M p : Nat} (h : Per s N p) (l : N ≤ M) : Per s M p := fun i hi => h i (by omega)
theorem Per.sub {s : Nat → Nat} {N p q : Nat} (hp : Per s N p) (hq : Per s N q) (l : q ≤ p) : Per s N (p - q) := fun i hi => by
  have h1 := hq (i + (p - q)) (by omega)
  have h2 := hp i hi
  rw [show i + (p - q) + q = i + p by omega] at h1
  rw [← h1, h2]
theorem Per.mul {s : Nat → Nat} {N p : Nat} (h : Per s N p) : ∀ k, Per s N (p * k)
  | 0 => fun _ _ => rfl
  | k + 1 => fun i hi => by
    rw [Nat.mul_succ, ← Nat.add_assoc, h (i + p * k) (by omega)]
    exact Per.mul h k i hi
theorem Per.mod {s : Nat → Nat} {N p q : Nat} (hp : Per s N p) (hq : Per s N q) : Per s N (p % q) := by
  have e : p % q = p - q * (p / q) := by
    have := Nat.div_add_mod p q
    omega
  rw [e]
  exact hp.sub (hq.mul _) (Nat.mul_div_le p q)
end KW
set_option Elab.async false
set_option maxRecDepth 100000
namespace KW
/-- the ring from place c on -/
def rot (l : List Nat) (c : Nat) : List Nat := l.drop c ++ l.take c
/-- each beat is an arrow, and follows the one ahead of it -/
def OkW (ps : List (Nat × Nat)) (s : Nat → Nat) : Prop := ∀ i, s i < ps.length ∧ (ps.getD (s i) (0, 0)).2 = (ps.getD (s (i + 1)) (0, 0)).1
theorem OkW.to {ps : List (Nat × Nat)} {s t : Nat → Nat} (h : OkW ps s) (e : ∀ i, s i = t i) : OkW ps t := fun i => by
  rw [← e, ← e]
  exact h i
end KW
set_option Elab.async false
set_option maxRecDepth 100000
set_option maxHeartbeats 2000000
namespace KW
open PySem PySem.Spec PyProof.Rows L2
theorem sqT_kp {K : PySem.W.Frag} {H H' : Hp} (k : Kp H H') {a : Addr} {xs : List V} (h : SqT K H a xs) : SqT K H' a xs := by
  rcases h with (h | ⟨o, h⟩) | h
  · exact .inl (.inl (k.t h))
  · exact .inl (.inr ⟨o, k _ _ trivial h⟩)
  · exact .inr h
theorem nums_len (l : List Nat) : (nums l).length = l.length := by unfold nums; rw [List.length_map]
theorem cutN (l : List Nat) (lo hi : Option Int) : cutV (nums l) lo hi = nums ((l.drop (HT.sIx l.length 0 lo)).take (HT.sIx l.length l.length hi - HT.sIx l.length 0 lo)) := by
  unfold cutV
  rw [nums_len]
  unfold nums
  rw [← List.map_drop, ← List.map_take]
theorem sIx_nat {n k d : Nat} (h : k ≤ n) : HT.sIx n d (some (k : Int)) = k := by
  unfold HT.sIx
  simp only
  split
  · omega
  · omega
theorem cut_from (l : List Nat) {k : Nat} (h : k ≤ l.length) : cutV (nums l) (some (k : Int)) none = nums (l.drop k) := by
  rw [cutN, sIx_nat h]
  show nums (List.take (l.length - k) (List.drop k l)) = _
  rw [List.take_of_length_le (by rw [List.length_drop]; omega)]
end KW
set_option Elab.async false
set_option maxRecDepth 100000
set_option maxHeartbeats 1000000
namespace KW
open PySem PySem.Spec PyProof.Rows L2
end KW
set_option Elab.async false
set_option maxRecDepth 100000
set_option maxHeartbeats 1000000
namespace KW
open PySem PySem.Spec PyProof.Rows L2
/-- a thing: a tuple of numbers -/
def IsTI (H : Hp) (v : V) (ts : List Int) : Prop := ∃ a, v = .ref a ∧ H a = some (.tup (ts.map V.int))
theorem IsTI.kp {H H' : Hp} {v : V} {ts : List Int} (k : Kp H H') (h : IsTI H v ts) : IsTI H' v ts := by
  obtain ⟨a, e, h⟩ := h
  exact ⟨a, e, k.t h⟩
end KW
set_option Elab.async false
set_option maxRecDepth 100000
set_option maxHeartbeats 1000000
namespace KW
open PySem PySem.Spec PyProof.Rows L2
end KW
set_option Elab.async false
set_option maxRecDepth 100000
set_option maxHeartbeats 2000000
namespace KW
open PySem PySem.Spec PyProof.Rows L2
/-- the first numbers of the things -/
def heads (tss : List (List Int)) : List Int := tss.map fun ts => ts.headD 0
end KW
set_option Elab.async false
set_option maxRecDepth 100000
set_option maxHeartbeats 2000000
namespace KW
open PySem PySem.Spec PyProof.Rows L2
end KW
set_option Elab.async false
set_option maxRecDepth 100000
set_option maxHeartbeats 2000000
namespace KW
open PySem PySem.Spec PyProof.Rows L2
end KW
set_option Elab.async false
set_option maxRecDepth 100000
set_option maxHeartbeats 1000000
namespace KW
open PySem PySem.Spec PyProof.Rows L2
end KW
set_option Elab.async false
set_option linter.all false
set_option maxRecDepth 100000
set_option maxHeartbeats 1000000
namespace KD
open PySem PySem.Spec PyProof.Rows L2 KW
def prD (p : Nat × Nat) : D := .tup [.int p.1, .int p.2]
/-- a web as the law has it -/
def wD (n : Nat) (ps : List (Nat × Nat)) : D := .tup [.int n, .ftup (ps.map prD)]
def natD (i : Nat) : D := .int (i : Int)
/-- a Web -/
def webO (n : Nat) (ps : List (Nat × Nat)) : D := .obj 0 (wD n ps)
structure WebΩ (Ω : Obs) (C : Addr) : Prop where
  iff : ∀ d G a, Ω.rep 0 d G a ↔ ∃ n ps, d = wD n ps ∧ WebAt C G a n ps ∧ Good n ps ∧ n ≤ 100 ∧ ps.length ≤ 400
/-- webs alone -/
def ΩW (C : Addr) : Obs where
  rep := fun c d G a => c = 0 ∧ ∃ n ps, d = wD n ps ∧ WebAt C G a n ps ∧ Good n ps ∧ n ≤ 100 ∧ ps.length ≤ 400
  mono := fun s ⟨e, n, ps, a, b, r⟩ => ⟨e, n, ps, a, b.same s, r⟩
section
variable {Ω : Obs} {G H H' : Hp} {C : Addr}
theorem pairs_reps : ∀ {as : List V} {ps : List (Nat × Nat)}, PairsIn H as ps → Reps Ω H as (ps.map prD)
  | _, _, .nil => .nil
  | _, _, .cons ⟨a, e, h⟩ r => by
    subst e
    exact .cons (.tup h (.cons (.int _) (.cons (.int _) .nil))) (pairs_reps r)
theorem rep_pair {v : V} {p : Nat × Nat} (h : Rep Ω H v (prD p)) : IsP H v p := by
  cases h with
  | tup h r =>
    cases r with
    | cons h1 r =>
      cases r with
      | cons h2 r =>
        cases h1; cases h2; cases r
        exact ⟨_, rfl, h⟩
theorem reps_pairs : ∀ {as : List V} {ps : List (Nat × Nat)}, Reps Ω H as (ps.map prD) → PairsIn H as ps
  | [], [], _ => .nil
  | _ :: _, [], h => by cases h
  | [], _ :: _, h => by cases h
  | _ :: _, _ :: _, .cons h r => .cons (rep_pair h) (reps_pairs r)
theorem nums_reps : ∀ l : List Nat, Reps Ω G (nums l) (l.map natD)
  | [] => .nil
  | _ :: l => .cons (.int _) (nums_reps l)
theorem webT_rep {t : Addr} {n : Nat} {ps : List (Nat × Nat)} (h : WebT H t n ps) : Rep Ω H (.ref t) (wD n ps) := by
  obtain ⟨q, as, h1, h2, h3, _⟩ := h
  exact .tup h1 (.cons (.int _) (.cons (.ftup h2 (pairs_reps h3)) .nil))
theorem fx_of {o : HO} (f : Fix o) : Fx o := by
  cases o <;> first | exact trivial | exact f.elim
theorem kp_grown (s : Same G H') : Kp H' (grown G H H') := fun a o f h => grown_fx s h (fx_of f)
theorem kp_same (s : Same G H) : Kp G H := fun a o _ h => s _ _ h
/-- all but the bag stays, and the bag is not in G -/
theorem sub_grow {b : Addr} (s : Same G H) (gb : G b = none) (g : Grow b H H') : Same G H' := fun a o h => g _ _ (fun e => by
  subst e
  rw [gb] at h
  cases h) (s _ _ h)
theorem web_rep {x : Addr} {n : Nat} {ps : List (Nat × Nat)} (W : WebΩ Ω C) (h : WebAt C G x n ps) (hG : Good n ps) (h1 : n ≤ 100) (h2 : ps.length ≤ 400) : Rep Ω G (.ref x) (webO n ps) := .obj ((W.iff _ _ _).mpr ⟨n, ps, rfl, h, hG, h1, h2⟩)
theorem rep_web {v : V} {n : Nat} {ps : List (Nat × Nat)} (W : WebΩ Ω C) (h : Rep Ω G v (webO n ps)) : ∃ x, v = .ref x ∧ WebAt C G x n ps ∧ Good n ps ∧ n ≤ 100 ∧ ps.length ≤ 400 := by
  cases h with
  | obj h =>
    obtain ⟨m, qs, e, h1, h2, h3, h4⟩ := (W.iff _ _ _).mp h
    have inj : ∀ {as bs : List (Nat × Nat)}, as.map prD = bs.map prD → as = bs := fun {as} => by
      induction as with
      | nil => intro bs e; cases bs with | nil => rfl | cons _ _ => cases e
      | cons a as ih =>
        intro bs e
        cases bs with
        | nil => cases e
        | cons b bs =>
          rw [List.map_cons, List.map_cons] at e
          injection e with e1 e2
          unfold prD at e1
          injection e1 with e1
          injection e1 with e3 e4
          injection e4 with e4 _
          injection e3 with e3
          injection e4 with e4
          rw [ih e2, show a = b from Prod.ext (by omega) (by omega)]
    unfold wD at e
    injection e with e
    injection e with e1 e2
    injection e2 with e2 _
    injection e1 with e1
    injection e2 with e2
    have en : n = m := by omega
    subst en
    have ep := inj e2
    subst ep
    exact ⟨_, rfl, h1, h2, h3, h4⟩
theorem web_new {x : Addr} {n : Nat} {ps : List (Nat × Nat)} (s : Same G H') (h : WebAt C H' x n ps) (nx : H x = none) : WebAt C (grown G H H') x n ps := by
  obtain ⟨dx, q, lv, en, as, ls, es, h1, _⟩ := id h
  exact h.to (kp_grown s) ((grown_nw s h1 nx (fun _ => by intro z; cases z)).trans h1.symm)
theorem web_ins {c : Nat} (W : WebΩ Ω C) (hc : c = 0) {x : Str} (hx : ∀ n q lv en, (wf n q lv en).lookup x = none) : InsOf Ω c C x := fun d G a h => by
  subst hc
  obtain ⟨n, ps, _, hw, _⟩ := (W.iff _ _ _).mp h
  obtain ⟨dx, q, lv, en, as, ls, es, h1, _⟩ := hw
  exact ⟨dx, _, h1, hx n q lv en⟩
end
def mfPull : MF where
  n := 1
  wp := fun ds Q _ => ∃ m : Int, ds = [.int m] ∧ 0 < m ∧ m < 2 ^ 100 ∧ ∀ r, 0 ≤ r → r < m → Q (.int r)
  mono := fun h _ ⟨m, a, b, c, q⟩ => ⟨m, a, b, c, fun r r0 r1 => h _ (q r r0 r1)⟩
  len := fun ⟨m, a, _⟩ => by rw [a]; rfl
def mfMixed : MFO where
  n := 1
  wp := fun ds Q _ => ∃ xs, ds = [.lst xs] ∧ xs.length ≤ 1000 ∧ ∀ ys, ys.Perm xs → Q ys
  mono := fun h _ ⟨m, a, b, q⟩ => ⟨m, a, b, fun r hr => h _ (q r hr)⟩
  len := fun ⟨m, a, _⟩ => by rw [a]; rfl
def mfWeb : MF where
  n := 2
  wp := fun ds Q _ => ∃ rm mm : Nat, ds = [.int rm, .int mm] ∧ 1 ≤ rm ∧ rm ≤ 100 ∧ mm ≤ 100 ∧ ∀ n ps, Good n ps → n ≤ rm → ps.length ≤ rm + mm → Q (wD n ps)
  mono := fun h _ ⟨m, k, a, b, c, d, q⟩ => ⟨m, k, a, b, c, d, fun n ps x y z => h _ (q n ps x y z)⟩
  len := fun ⟨m, k, a, _⟩ => by rw [a]; rfl
theorem perm_reps {Ω : Obs} {G : Hp} : ∀ {us vs : List V}, us.Perm vs → ∀ {xs : List D}, Reps Ω G vs xs → ∃ ys : List D, ys.Perm xs ∧ Reps Ω G us ys := by
  intro us vs p
  induction p with
  | nil => intro xs r; exact ⟨xs, List.Perm.refl _, r⟩
  | cons x p ih =>
    intro xs r
    cases r with
    | cons h r =>
      obtain ⟨ys, py, ry⟩ := ih r
      exact ⟨_ :: ys, List.Perm.cons _ py, .cons h ry⟩
  | swap x y l =>
    intro xs r
    cases r with
    | cons h r =>
      cases r with
      | cons h2 r => exact ⟨_ :: _ :: _, List.Perm.swap _ _ _, .cons h2 (.cons h r)⟩
  | trans p1 p2 ih1 ih2 =>
    intro xs r
    obtain ⟨ys, py, ry⟩ := ih2 r
    obtain ⟨zs, pz, rz⟩ := ih1 ry
    exact ⟨zs, pz.trans py, rz⟩
theorem Reps.mem {Ω : Obs} {G : Hp} : ∀ {vs : List V} {xs : List D} {v : V}, Reps Ω G vs xs → v ∈ vs → ∃ x ∈ xs, Rep Ω G v x
  | _, _, _, .nil, h => by cases h
  | _, _, _, .cons h r, m => by
    rcases List.mem_cons.mp m with rfl | m
    · exact ⟨_, List.mem_cons_self, h⟩
    · obtain ⟨x, hx, rx⟩ := Reps.mem r m
      exact ⟨x, List.mem_cons_of_mem _ hx, rx⟩
section
variable {P : Program} {w : World} {K : PySem.W.Frag} {mg : Str → Option Value} {base : Heap} {Ω : Obs} {k : Nat} {f C : Addr} {fd : FuncData} {ps : List Str}
theorem d_pull (F : FnOk P w K mg base CX0 k f fd ps spPull) : FnOk P w K mg base CX0 k f fd ps (spB Ω mfPull) := F.imp fun vs H Q E h => by
  obtain ⟨b, l, ms, us, G, ds, rfl, B, gb, s, r, m, rfl, h0, h1, q⟩ := h
  obtain ⟨v, rfl, rv⟩ := r.one
  cases rv
  exact ⟨b, l, ms, m, rfl, B, h0, h1, fun H' r r0 r1 off B' => q r r0 r1 G _ H' off.grow B' (Same.refl _) (sub_grow s gb off.grow) (New.refl _ _) (.int _)⟩
theorem d_mixed (F : FnOk P w K mg base CX0 k f fd ps (spMixed K)) : FnOk P w K mg base CX0 k f fd ps (spBO Ω mfMixed) := F.imp fun vs H Q E h => by
  obtain ⟨b, l, ms, us, G, ds, rfl, B, gb, s, r, xs, rfl, h1, q⟩ := h
  obtain ⟨v, rfl, rv⟩ := r.one
  obtain ⟨a, vs, rfl, ha, rs⟩ := rv.lstv rfl
  refine ⟨b, l, a, ms, vs, rfl, B, SqL.of (s _ _ ha), by rw [rs.length]; exact h1, fun H' p ys g np hp perm B' => ?_⟩
  obtain ⟨zs, pz, rz⟩ := perm_reps perm rs
  exact q zs pz G p ys H' g B' (Same.refl _) (sub_grow s gb g) (New.refl _ _) np hp rz (s.free np)
theorem d_web (F : FnOk P w K mg base CX0 k f fd ps spWeb) : FnOk P w K mg base CX0 k f fd ps (spB Ω mfWeb) := F.imp fun vs H Q E h => by
  obtain ⟨b, l, ms, us, G, ds, rfl, B, gb, s, r, rm, mm, rfl, h1, h2, h3, q⟩ := h
  cases r with
  | cons ra r =>
    obtain ⟨v, rfl, rv⟩ := r.one
    cases ra; cases rv
    refine ⟨b, l, ms, rm, mm, rfl, B, h1, h2, h3, fun H' t n ps g W hn hp B' => ?_⟩
    have s' := sub_grow s gb g
    obtain ⟨_, _, _, _, _, hG⟩ := id W
    exact q n ps hG hn hp (grown G H H') _ H' g B' grown_sub (grown_in s') grown_new (webT_rep (W.kp (kp_grown s')))
end
def mfRooms : MF where
  n := 1
  wp := fun ds Q _ => ∃ (n : Nat) (ps : List (Nat × Nat)), ds = [webO n ps] ∧ Q (.int n)
  mono := fun h _ ⟨m, k, a, q⟩ => ⟨m, k, a, h _ q⟩
  len := fun ⟨m, k, a, _⟩ => by rw [a]; rfl
section
variable {P : Program} {w : World} {K : PySem.W.Frag} {mg : Str → Option Value} {base : Heap} {Ω : Obs} {k : Nat} {f C : Addr} {fd : FuncData} {ps : List Str} {E E' : XK}
theorem d_rooms (W : WebΩ Ω C) (F : FnOk P w K mg base CX0 k f fd ps (spRooms C)) : FnOk P w K mg base CX0 k f fd ps (spD Ω mfRooms) := F.imp fun vs H Q E h => by
  obtain ⟨G, ds, s, r, n, ps, rfl, q⟩ := h
  obtain ⟨v, rfl, rv⟩ := r.one
  obtain ⟨x, rfl, hx, _⟩ := rep_web W rv
  exact ⟨x, n, ps, rfl, hx.same s, q G _ H (Same.refl _) (Same.refl _) s (New.refl _ _) (.int _)⟩
/-- Web(n, [..]) -/
def gWebMk : List D → M D := fun ds => ⟨fun _ Q _ => ∃ (n : Nat) (ps : List (Nat × Nat)), ds = [.int n, .lst (ps.map prD)] ∧ Good n ps ∧ n ≤ 100 ∧ ps.length ≤ 400 ∧ Q (webO n ps), fun h _ ⟨n, ps, a, b, c, d, q⟩ => ⟨n, ps, a, b, c, d, h _ q⟩⟩
theorem pairs_loose {K : PySem.W.Frag} {H : Hp} : ∀ {as : List V} {ps : List (Nat × Nat)}, PairsIn H as ps → Paired (PairL K H) as ps
  | _, _, .nil => .nil
  | _, _, .cons ⟨a, e, h⟩ r => .cons ⟨a, e, .inr (SqT.of h)⟩ (pairs_loose r)
theorem c_makeWeb (W : WebΩ Ω C) : CallD Ω E (fun vs H1 Q => ∀ x dx, H1 x = none → H1 dx = none → dx ≠ x → spInit K C (.ref x :: (vs ++ [])) (upd (upd H1 dx (.own x)) x (.ins C dx [])) (fun v H2 => v = .non ∧ Q (.ref x) H2) E') gWebMk := fun A G H vs ds Q env Ex fr f r q => by
  obtain ⟨n, ps, rfl, hG, h1, h2, q⟩ := q
  cases r with
  | cons ra r =>
    obtain ⟨v, rfl, rv⟩ := r.one
    cases ra
    obtain ⟨a, as, rfl, ha, ru⟩ := rv.lstv rfl
    intro x dx nx ndx ne
    have s1 : Same H (upd (upd H dx (.own x)) x (.ins C dx [])) := fun b o e => by
      rw [upd_ne (ne_of_none e nx), upd_ne (ne_of_none e ndx)]
      exact e
    refine ⟨x, dx, a, n, as, ps, rfl, upd_same, SqL.of (s1 _ _ (fr.sub _ _ ha)), pairs_loose (PairsIn.kp (kp_same (fr.sub.trans s1)) (reps_pairs ru)), hG, h1, h2, fun H' hx keep => ⟨rfl, ?_⟩⟩
    have s' : Same H H' := fun b o e => keep _ _ (ne_of_none e nx) (s1 _ _ e)
    have sg := fr.sub.trans s'
    exact q (grown G H H') _ H' (Tr.call fr s' grown_sub (grown_in sg) grown_new) (web_rep W (web_new sg hx nx) hG h1 h2)
theorem dn_makeWeb {A : Am} {t : TA} {n : Nat} {m : M (List D)} (W : WebΩ Ω C) (h : DenA Ω A E t n m) : Den Ω A E (tMake C (spInit K C) [] E' t) (m.bind gWebMk) := dn_callR (c_makeWeb W) h
end
end KD
set_option Elab.async false
set_option maxRecDepth 100000
set_option maxHeartbeats 2000000
namespace KW
open PySem PySem.Spec PyProof.Rows L2
end KW
set_option Elab.async false
set_option maxRecDepth 100000
set_option maxHeartbeats 2000000
namespace KW
open PySem PySem.Spec PyProof.Rows L2
/-- a list of lists of numbers -/
def LsIn (H : Hp) (vs : List V) (cs : List (List Nat)) : Prop := Paired (fun v c => ∃ a, v = V.ref a ∧ H a = some (.lst (nums c))) vs cs
theorem LsIn.to {H H' : Hp} : ∀ {vs : List V} {cs : List (List Nat)}, LsIn H vs cs → (∀ a o, V.ref a ∈ vs → H a = some o → H' a = some o) → LsIn H' vs cs
  | _, _, .nil, _ => .nil
  | _, _, .cons ⟨a, e, h⟩ r, k => .cons ⟨a, e, k a _ (by rw [e]; exact List.mem_cons_self) h⟩ (LsIn.to r fun b o hb => k b o (List.mem_cons_of_mem _ hb))
end KW
set_option Elab.async false
set_option maxRecDepth 100000
set_option maxHeartbeats 2000000
namespace KW
open PySem PySem.Spec PyProof.Rows L2
end KW
set_option Elab.async false
set_option maxRecDepth 100000
set_option maxHeartbeats 2000000
namespace KW
open PySem PySem.Spec PyProof.Rows L2
theorem idxs_mem (r : Nat) : ∀ (l : List Nat) (k a : Nat), a ∈ idxs l r k → ∃ i, a = k + i ∧ l[i]? = some r
  | [], _, _, h => absurd h (by simp [idxs])
  | p :: l, k, a, h => by
    unfold idxs at h
    have go : a ∈ idxs l r (k + 1) → ∃ i, a = k + i ∧ (p :: l)[i]? = some r := fun h => by
      obtain ⟨i, e, q⟩ := idxs_mem r l (k + 1) a h
      exact ⟨i + 1, by omega, by simpa using q⟩
    split at h
    · rename_i e
      rcases List.mem_cons.mp h with z | z
      · exact ⟨0, by omega, by rw [e]; rfl⟩
      · exact go z
    · exact go h
theorem on_ne {n : Nat} {ps : List (Nat × Nat)} (g : Good n ps) {x : Nat} (hx : x < ps.length) : onOf ps x ≠ [] := fun z => by
  have hp : ps.getD x (0, 0) = ps[x] := by rw [List.getD_eq_getElem?_getD, List.getElem?_eq_getElem hx]; rfl
  obtain ⟨p, h1, h2⟩ := g.2.2 (ps.getD x (0, 0)).2 (by rw [hp]; exact (g.2.1 _ (List.getElem_mem hx)).2)
  exact idxs_none _ _ _ z (List.mem_map.mpr ⟨p, h1, h2⟩)
theorem cut_take (l : List Nat) {k : Nat} (h : k ≤ l.length) : cutV (nums l) none (some (k : Int)) = nums (l.take k) := by
  have ln : (nums l).length = l.length := by unfold nums; rw [List.length_map]
  unfold cutV
  have e1 : HT.sIx (nums l).length 0 none = 0 := rfl
  have e2 : HT.sIx (nums l).length (nums l).length (some (k : Int)) = k := by
    unfold HT.sIx
    simp only [ln]
    split
    · omega
    · omega
  rw [e1, e2]
  unfold nums
  rw [List.drop_zero, Nat.sub_zero, List.map_take]
theorem bag_same {b l : Addr} {ms : List Int} {H H' : Hp} (s : Same H H') (B : BagAt b l ms H) : BagAt b l ms H' := by
  obtain ⟨⟨i, r, sd, c, h, hi⟩, hl, nbl⟩ := B
  exact ⟨⟨i, r, sd, c, s _ _ h, hi⟩, s _ _ hl, nbl⟩
end KW
set_option Elab.async false
set_option maxRecDepth 100000
set_option maxHeartbeats 2000000
namespace KW
open PySem PySem.Spec PyProof.Rows L2
theorem rowsF_end {n : Nat} {ps : List (Nat × Nat)} (h : ∀ p ∈ ps, p.1 < n ∧ p.2 < n) {k : Nat} {r : List Nat} (hr : r ∈ rowsF ps k) : end_ ps r < n := by
  have hl := rowsF_lt hr _ (last_mem (rowsF_ne hr))
  unfold end_
  rw [List.getD_eq_getElem?_getD, List.getElem?_eq_getElem hl]
  exact (h _ (List.getElem_mem hl)).2
theorem len_sm {α : Type} (xs : List α) : xs.length = sm xs fun _ => 1 := by
  unfold sm
  rw [List.map_const', List.sum_replicate_nat, Nat.mul_one]
theorem rowsF_mono {n : Nat} {ps : List (Nat × Nat)} (h : Good n ps) (k : Nat) : (rowsF ps k).length ≤ (rowsF ps (k + 1)).length := by
  show _ ≤ ((rowsF ps k).flatMap fun r => (onOf ps (r.getLastD 0)).map fun a => r ++ [a]).length
  have e : ((rowsF ps k).flatMap fun r => (onOf ps (r.getLastD 0)).map fun a => r ++ [a]).length = sm (rowsF ps k) fun r => (onOf ps (r.getLastD 0)).length := by
    rw [len_sm, sm_flat]
    refine sm_congr fun r _ => ?_
    rw [← len_sm, List.length_map]
  rw [e, len_sm]
  have go : ∀ xs : List (List Nat), (∀ r ∈ xs, 1 ≤ (onOf ps (r.getLastD 0)).length) → sm xs (fun _ => 1) ≤ sm xs fun r => (onOf ps (r.getLastD 0)).length := by
    intro xs
    induction xs with
    | nil => intro _; exact Nat.le_refl _
    | cons r xs ih =>
      intro hx
      rw [sm_cons, sm_cons]
      exact Nat.add_le_add (hx r List.mem_cons_self) (ih fun q hq => hx q (List.mem_cons_of_mem _ hq))
  refine go _ fun r hr => ?_
  obtain ⟨p, hp, ep⟩ := h.2.2 _ (rowsF_end h.2.1 hr)
  have z : (onOf ps (r.getLastD 0)).length = sm ps fun p => if p.1 = end_ ps r then 1 else 0 := by
    rw [len_sm]
    exact sm_idxs0 (0, 0) (fun _ : Nat × Nat => 1) (·.1) (end_ ps r) ps
  rw [z]
  have one : ∀ qs : List (Nat × Nat), p ∈ qs → 1 ≤ sm qs fun p => if p.1 = end_ ps r then 1 else 0 := by
    intro qs
    induction qs with
    | nil => intro h; exact absurd h (by simp)
    | cons q qs ih =>
      intro hq
      rw [sm_cons]
      rcases List.mem_cons.mp hq with e | e
      · rw [← e, if_pos ep]
        omega
      · have := ih e
        omega
  exact one ps hp
theorem rowsF_under {n : Nat} {ps : List (Nat × Nat)} (h : Good n ps) {k j : Nat} (hj : j ≤ k) : (rowsF ps j).length ≤ (rowsF ps k).length := by
  induction k with
  | zero => rw [show j = 0 by omega]; exact Nat.le_refl _
  | succ k ih =>
    by_cases e : j = k + 1
    · rw [e]; exact Nat.le_refl _
    · exact Nat.le_trans (ih (by omega)) (rowsF_mono h k)
end KW
set_option Elab.async false
set_option maxRecDepth 100000
set_option maxHeartbeats 2000000
namespace KW
open PySem PySem.Spec PyProof.Rows L2
theorem getD_lt {n : Nat} {ps : List (Nat × Nat)} (h : ∀ p ∈ ps, p.1 < n ∧ p.2 < n) {a : Nat} (ha : a < ps.length) : (ps.getD a (0, 0)).1 < n ∧ (ps.getD a (0, 0)).2 < n := by
  rw [List.getD_eq_getElem?_getD, List.getElem?_eq_getElem ha]
  exact h _ (List.getElem_mem ha)
theorem idxs_nodup (r : Nat) : ∀ (l : List Nat) (k : Nat), (idxs l r k).Nodup
  | [], _ => List.Pairwise.nil
  | p :: l, k => by
    unfold idxs
    split
    · refine List.nodup_cons.mpr ⟨fun h => ?_, idxs_nodup r l (k + 1)⟩
      have z := (idxs_lt r l (k + 1) k h).1
      omega
    · exact idxs_nodup r l (k + 1)
end KW
set_option Elab.async false
set_option linter.all false
set_option maxRecDepth 100000
set_option maxHeartbeats 2000000
namespace KD
open PySem PySem.Spec PyProof.Rows L2 KW
end KD
set_option Elab.async false
set_option linter.all false
set_option maxRecDepth 100000
set_option maxHeartbeats 2000000
namespace KD
open PySem PySem.Spec PyProof.Rows L2 KW
theorem flat_len {α β : Type} (g : α → List β) (c : Nat) (h : ∀ a, (g a).length ≤ c) : ∀ l : List α, (l.flatMap g).length ≤ l.length * c
  | [] => by simp
  | a :: l => by
    rw [List.flatMap_cons, List.length_append, List.length_cons, Nat.succ_mul]
    have := h a
    have := flat_len g c h l
    omega
def mfBegin : MF where
  n := 2
  wp := fun ds Q _ => ∃ (n : Nat) (ps : List (Nat × Nat)) (a : Nat), ds = [webO n ps, .int a] ∧ a < ps.length ∧ Q (.int (ps.getD a (0, 0)).1)
  mono := fun h _ ⟨n, ps, r, a, b, q⟩ => ⟨n, ps, r, a, b, h _ q⟩
  len := fun ⟨n, ps, r, a, _⟩ => by rw [a]; rfl
def mfEnd : MF where
  n := 2
  wp := fun ds Q _ => ∃ (n : Nat) (ps : List (Nat × Nat)) (a : Nat), ds = [webO n ps, .int a] ∧ a < ps.length ∧ Q (.int (ps.getD a (0, 0)).2)
  mono := fun h _ ⟨n, ps, r, a, b, q⟩ => ⟨n, ps, r, a, b, h _ q⟩
  len := fun ⟨n, ps, r, a, _⟩ => by rw [a]; rfl
def mfIns : MFO where
  n := 2
  wp := fun ds Q _ => ∃ (n : Nat) (ps : List (Nat × Nat)) (r : Nat), ds = [webO n ps, .int r] ∧ r < n ∧ Q ((idxs (ps.map fun p : Nat × Nat => p.2) r 0).map natD)
  mono := fun h _ ⟨n, ps, r, a, b, q⟩ => ⟨n, ps, r, a, b, h _ q⟩
  len := fun ⟨n, ps, r, a, _⟩ => by rw [a]; rfl
section
variable {P : Program} {w : World} {K : PySem.W.Frag} {mg : Str → Option Value} {base : Heap} {Ω : Obs} {k : Nat} {f C CR : Addr} {fd : FuncData} {ps : List Str} {E E' : XK}
theorem d_begin (W : WebΩ Ω C) (F : FnOk P w K mg base CX0 k f fd ps (spBegin C)) : FnOk P w K mg base CX0 k f fd ps (spD Ω mfBegin) := F.imp fun vs H Q E h => by
  obtain ⟨G, ds, s, r, n, ps, a, rfl, lt, q⟩ := h
  cases r with
  | cons ra r =>
    obtain ⟨v, rfl, rv⟩ := r.one
    cases rv
    obtain ⟨x, rfl, hx, _⟩ := rep_web W ra
    exact ⟨x, n, ps, a, _, rfl, hx.same s, by rw [List.getD_eq_getElem?_getD, List.getElem?_eq_getElem lt]; rfl, q G _ H (Same.refl _) (Same.refl _) s (New.refl _ _) (.int _)⟩
theorem d_end (W : WebΩ Ω C) (F : FnOk P w K mg base CX0 k f fd ps (spEnd C)) : FnOk P w K mg base CX0 k f fd ps (spD Ω mfEnd) := F.imp fun vs H Q E h => by
  obtain ⟨G, ds, s, r, n, ps, a, rfl, lt, q⟩ := h
  cases r with
  | cons ra r =>
    obtain ⟨v, rfl, rv⟩ := r.one
    cases rv
    obtain ⟨x, rfl, hx, _⟩ := rep_web W ra
    exact ⟨x, n, ps, a, _, rfl, hx.same s, by rw [List.getD_eq_getElem?_getD, List.getElem?_eq_getElem lt]; rfl, q G _ H (Same.refl _) (Same.refl _) s (New.refl _ _) (.int _)⟩
theorem d_ins (W : WebΩ Ω C) (F : FnOk P w K mg base CX0 k f fd ps (spIns C)) : FnOk P w K mg base CX0 k f fd ps (spO Ω mfIns) := F.imp fun vs H Q E h => by
  obtain ⟨G, ds, s, r, n, ps, i, rfl, lt, q⟩ := h
  cases r with
  | cons ra r =>
    obtain ⟨v, rfl, rv⟩ := r.one
    cases rv
    obtain ⟨x, rfl, hx, _⟩ := rep_web W ra
    exact ⟨x, n, ps, i, rfl, hx.same s, lt, fun H' l s' nl hl => q G l _ H' s' (Same.refl _) (s.trans s') (New.refl _ _) nl hl (nums_reps _) (s.free nl)⟩
end
end KD
set_option Elab.async false
set_option linter.all false
set_option maxRecDepth 100000
set_option maxHeartbeats 1000000
namespace KD
open PySem PySem.Spec PyProof.Rows L2
/-- both -/
def both (G1 G2 : Hp) : Hp := fun a => match G1 a with
  | some o => some o
  | none => G2 a
end KD
set_option Elab.async false
set_option linter.all false
set_option maxRecDepth 100000
set_option maxHeartbeats 1000000
namespace KD
open PySem PySem.Spec PyProof.Rows L2
end KD
set_option Elab.async false
set_option linter.all false
set_option maxRecDepth 100000
set_option maxHeartbeats 1000000
namespace KD
open PySem PySem.Spec PyProof.Rows L2
theorem pys_map : ∀ xs : List D, pys xs = xs.map py
  | [] => rfl
  | x :: xs => by
    show py x :: pys xs = _
    rw [pys_map xs]
    rfl
end KD
set_option Elab.async false
set_option linter.all false
set_option maxRecDepth 100000
set_option maxHeartbeats 1000000
namespace KD
open PySem PySem.Spec PyProof.Rows L2
end KD
set_option Elab.async false
set_option maxRecDepth 100000
set_option maxHeartbeats 3200000
namespace KW
open PySem PySem.Spec PyProof.Rows L2
/-- a set as it is made -/
def bare (w : World) : Obj := { cls := .type "set", dict := none, data := .set #[] 0 (.fresh 0 0 (!w.params.followText "set-order")) }
section
variable {P : Program} {w : World} {A : Around} {E : Value → Shared → Prop} {s : Shared}
theorem set_of_list {l : Addr} {its : Array Value} (ns : List Int) {Q : Value → Shared → Prop} (quiet : A.handled = none) (isl : s.heap.IsList l its) (ia : IntsAre its.toList ns) (few : ns.length + 1 < scanBound)
    (go : ∀ (h2 : Heap) (tk c : Nat), SetR w h2 s.heap.objs.size (fun j => decide (j ∈ ns)) c → c ≤ ns.length → (∀ b o, s.heap.get? b = some o → h2.get? b = some o) → Q (.ref s.heap.objs.size) { s with heap := h2, toks := tk }) :
    wpAny (model P w) A (call (.type "set") [.ref l]) Q E s := by
  have size : its.size = ns.length := by
    have z := IntsAre.length ia
    rwa [Array.length_toList] at z
  obtain ⟨c0, tl, mro⟩ := F.called_set.mro
  have f1 := F.called_set.made
  have f2 := F.called_set.sub
  have f3 := F.called_set.notType
  have f4 := F.called_set.canCreate
  have f5 := F.typeCall_set_1 (.ref l)
  refine wpAny_call (codeAny_of_tree (show wpAny _ _ (callAny (.type "set") _) _ _ _ from wpAny_pure ⟨Code.quiet_builtin _ (by decide +kernel), codeAny_builtin F.entry_type_call ?_⟩))
  rw [Around.under_plain (weight_type_call_type "set" [.ref l] []) rfl]
  repeat any_goals (first | assumption | wp_step)
  refine codeAny_mono (code_set_led1 (.ref l) (E := E) (Q₁ := fun obj s1 => obj = .ref s.heap.objs.size ∧ s1 = { s with heap := s.heap.push (bare w) }) ⟨rfl, rfl⟩) fun r s1 hr => ?_
  cases r with
  | error e => exact hr
  | ok fl =>
  cases fl with
  | ret obj =>
    obtain ⟨rfl, rfl⟩ := hr
    have at0 : (s.heap.push (bare w)).get? s.heap.objs.size = some (bare w) := Heap.get?_push_size _ rfl
    have ty0 : Shared.TypeIs { s with heap := s.heap.push (bare w) } (.ref s.heap.objs.size) "set" := ⟨_, at0, rfl⟩
    have f6 := F.called_set.init.lookup
    have f7 := F.called_set.init.bind (.ref s.heap.objs.size)
    repeat any_goals (first | assumption | wp_step)
    refine codeAny_mono (codeAny_call_builtin (R := wants (fun r s2 => r = .none ∧ ∃ h2 tk c, s2 = { s with heap := h2, toks := tk } ∧ SetR w h2 s.heap.objs.size (fun j => decide (j ∈ ns)) c ∧ c ≤ ns.length ∧ ∀ b o, s.heap.get? b = some o → h2.get? b = some o) E) F.called_set.init.plain F.entry_set_init (check_set_init_1 ty0 ?_)) fun r2 s2 hr2 => ?_
    · obtain ⟨⟨ocls, odict, odata, oslots⟩, hol, hcl, nl, hdl⟩ := isl
      dsimp only at hcl hdl
      subst hcl hdl
      have at1 : (s.heap.push (bare w)).get? l = some ⟨.type "list", odict, .seq its nl, oslots⟩ := Heap.get?_push_of_some _ hol
      have g1 := F.sub_list_set
      have g2 := F.sub_list_frozenset
      have g3 : (Value.type "list" == Value.type "dict") = false := by decide
      have isl1 : (s.heap.push (bare w)).IsList l its := ⟨_, at1, rfl, nl, rfl⟩
      unfold Builtin.«set.__init__» noKeywords Builtin.Frozenset.updateFrom
      generalize hPI : pyIter = PI
      wp_walk
      subst hPI
      refine wpAny_pyIter_list isl1 (wpAny_bind (wpAny_runValue ?_))
      have ls : l < s.heap.objs.size := Heap.lt_size hol
      have q3 : A.in1.in1.in1.handled = none := by simp [quiet]
      have ne1 : l ≠ (s.heap.push (bare w)).objs.size := by rw [Heap.size_push]; exact Nat.ne_of_lt (Nat.lt_succ_of_lt ls)
      have nin : s.heap.objs.size ∉ [(s.heap.push (bare w)).objs.size, l] := by
        rw [Heap.size_push]
        intro z
        simp only [List.mem_cons, List.not_mem_nil, or_false] at z
        exact z.elim (Nat.ne_of_lt (Nat.lt_succ_self _)) (Nat.ne_of_gt ls)
      have val : ∀ (i : Nat) (v : Value), its[i]? = some v → ∃ k t, ns[i]? = some k ∧ v = .int k t := fun i v hv => by
        have hi : i < ns.length := by rw [← size]; exact (Array.getElem?_eq_some_iff.mp hv).1
        obtain ⟨t, e⟩ := IntsAre.int_at ia i v (by rw [Array.getElem?_toList]; exact hv)
        refine ⟨ns[i], t, List.getElem?_eq_getElem hi, ?_⟩
        rw [e, List.getD_eq_getElem?_getD, List.getElem?_eq_getElem hi]
        rfl
      refine set_update_ints ((Walks.list q3 _ l ne1 its).toS) s.heap.objs.size nin ns size few val (its.size - 0) 0 _ (by omega) (Nat.zero_le _) ⟨⟨_, Heap.get?_push_size _ rfl, rfl, rfl⟩, isl1.push _⟩ ?_ ?_
      · exact ⟨0, Nat.le_refl 0, setR_new_at (Heap.get?_push_of_some _ at0)⟩
      · rintro ⟨h2, g2', d2, tk2, os2⟩ c2 hm hc2 hS2
        have e1 : g2' = s.gens := hm.gens
        have e2 : d2 = s.drawn := hm.drawn
        have e3 : os2 = s.os := hm.os
        subst e1 e2 e3
        show wpAny _ _ _ _ _ _
        refine wpAny_pure ?_
        show wpAny _ _ (ret Value.none) _ _ _
        refine wpAny_pure ⟨rfl, h2, tk2, c2, rfl, hS2, by omega, fun b o e => ?_⟩
        have lb : b < s.heap.objs.size := Heap.lt_size e
        refine hm.heap b o (fun z => ?_) (Heap.get?_push_of_some _ (Heap.get?_push_of_some _ e))
        rw [Heap.size_push] at z
        simp only [List.mem_cons, List.not_mem_nil, or_false] at z
        exact z.elim (Nat.ne_of_lt lb) (Nat.ne_of_lt (Nat.lt_succ_of_lt lb))
    · cases r2 with
      | error e => exact hr2
      | ok fl2 =>
      cases fl2 with
      | ret r =>
        obtain ⟨rfl, h2, tk, c2, rfl, hS2, hc2, hk2⟩ := hr2
        repeat any_goals (first | assumption | wp_step)
        exact go _ _ _ hS2 hc2 hk2
      | _ => exact hr2.elim
  | _ => exact hr.elim
end
end KW
set_option Elab.async false
set_option linter.all false
set_option maxRecDepth 100000
set_option maxHeartbeats 1000000
namespace KD
open PySem PySem.Spec PyProof.Rows L2
end KD
set_option Elab.async false
set_option linter.all false
set_option maxRecDepth 100000
set_option maxHeartbeats 3200000
namespace KW
open PySem PySem.Spec PyProof.Rows L2 SrtO
section
variable {prog : Program} {w : World} {A : Around} {E : Value → Shared → Prop} {s : Shared}
/-- the list that a list or tuple is laid out in -/
def laidOut (h : Heap) (its : Array Value) : Heap := (h.push (seqObj "list" #[] 0)).update h.objs.size (Obj.mapSeq (· ++ its))
theorem laidOut_size (h : Heap) (its : Array Value) : (laidOut h its).objs.size = h.objs.size + 1 := by
  unfold laidOut
  rw [Heap.size_update, size_push']
theorem laidOut_old {h : Heap} {its : Array Value} {b : Addr} {o : Obj} (e : h.get? b = some o) : (laidOut h its).get? b = some o :=
  (Heap.get?_update_other _ _ (Nat.ne_of_gt (Heap.lt_size e))).trans (Heap.get?_push_of_some _ e)
theorem col_seq {Q : List Value → Shared → Prop} {it : Addr} {T : String} {o : Obj} {its : Array Value} {n : Nat} (hT : T = "list" ∨ T = "tuple") (ho : s.heap.get? it = some o) (hc : o.cls = .type T) (hd : o.data = .seq its n) (few : its.size ≤ sizeLine)
    (go : Q its.toList { s with heap := laidOut s.heap its }) : wpAny (model prog w) A (collect (.ref it)) Q E s := by
  unfold collect
  refine wpAny_bind (wpAny_runValue (codeAny_builtin F.entry_proto_collect ?_))
  rw [Around.under_plainId F.plain_proto_collect _]
  show wpAny _ A.in1 (newList [] >>= fun l => again (.builtin "list.__iadd__" ⟨[l, .ref it], []⟩)) _ _ s
  refine wpAny_bind (wpAny_newObj_type (wpAny_pure ⟨plainId_quiet F.plain_list_iadd _, codeAny_builtin F.entry_list_iadd ?_⟩))
  rw [Around.under_plainId F.plain_list_iadd _]
  show wpAny _ A.in1 (Builtin.List.listExtendWith (.ref s.heap.objs.size) (.ref it) (.ref s.heap.objs.size)) _ _ { s with heap := s.heap.push (seqObj "list" #[] 0) }
  have at0 : (s.heap.push (seqObj "list" #[] 0)).get? s.heap.objs.size = some (seqObj "list" #[] 0) := Heap.get?_push_size _ rfl
  have at1 := Heap.get?_update_self (Obj.mapSeq (· ++ its)) at0 rfl
  have last : wpAny (model prog w) A (match Value.ref s.heap.objs.size with
      | Value.ref a => load a >>= fun o => match o.data with
          | Data.seq xs _ => pure xs.toList
          | _ => unsupported "internal:collect"
      | _ => unsupported "internal:collect") Q E { s with heap := laidOut s.heap its } := by
    show wpAny _ A (load s.heap.objs.size >>= _) _ _ _
    refine wpAny_bind (wpAny_load at1 (wpAny_pure ?_))
    have e : ((#[] : Array Value) ++ its).toList = its.toList := by simp
    show Q ((#[] : Array Value) ++ its).toList _
    rw [e]
    exact go
  refine wpAny_mono (wpAny_extend_seq (hsz := few) (A := A) (R := fun r t => r = .ok (.ret (.ref s.heap.objs.size)) ∧ t = { s with heap := laidOut s.heap its }) (s := { s with heap := s.heap.push (seqObj "list" #[] 0) }) _ it _ 0 hT at0 (Heap.get?_push_of_some _ ho) hc hd ⟨rfl, rfl⟩) (fun fin t h => ?_) (fun e t h => absurd h.1 (by simp))
  cases fin with
  | done f =>
    obtain ⟨e, rfl⟩ := h
    cases e
    exact last
  | again c2 => exact ⟨h.1, codeAny_mono h.2 fun r t2 hr => by obtain ⟨rfl, rfl⟩ := hr; exact last⟩
theorem sort_seq {l : Addr} {T : String} {o : Obj} {vs : List Value} {n : Nat} {ltv : Value → Value → Bool} {Q : Value → Shared → Prop} (O : Swo ltv) (hT : T = "list" ∨ T = "tuple") (ho : s.heap.get? l = some o) (hc : o.cls = .type T) (hd : o.data = .seq vs.toArray n) (few : vs.length ≤ sizeLine)
    (can : 2 ≤ vs.length → ∀ (h1 : Heap) (a : Addr), h1.get? a = some (seqObj "list" vs.toArray 0) → (∀ b o, s.heap.get? b = some o → b ≠ a ∧ h1.get? b = some o) → SortableO prog w A.in1.in1 { s with heap := h1 } a vs ltv)
    (go : ∀ (h2 : Heap) (d : Addr) (out : List Value), Srtd ltv out → Stb ltv out vs → (∀ b o, s.heap.get? b = some o → h2.get? b = some o) → s.heap.objs.size ≤ d → (∃ n, h2.get? d = some (seqObj "list" out.toArray n)) → Q (.ref d) { s with heap := h2 }) :
    wpAny (model prog w) A (call (.builtin "sorted") [.ref l]) Q E s := by
  refine Calls.call_function_entry kind_sorted plain_sorted entry_sorted (args_sorted1 _) ?_
  unfold Builtin.«sorted»
  refine wpAny_bind (m := checkCount "sorted" 1 1 _) (wpAny_pure (wpAny_bind (col_seq hT ho hc hd (by rw [List.size_toArray]; exact few) ?_)))
  refine wpAny_bind (wpAny_newList ?_ few)
  have k1 : ∀ b o, s.heap.get? b = some o → (laidOut s.heap vs.toArray).get? b = some o := fun b o e => laidOut_old e
  have sz : s.heap.objs.size ≤ (laidOut s.heap vs.toArray).objs.size := by rw [laidOut_size]; exact Nat.le_succ _
  generalize laidOut s.heap vs.toArray = h1 at k1 sz
  have here : (h1.push (seqObj "list" vs.toArray 0)).get? h1.objs.size = some (seqObj "list" vs.toArray 0) := Heap.get?_push_size _ rfl
  have keep : ∀ b o, s.heap.get? b = some o → b ≠ h1.objs.size ∧ (h1.push (seqObj "list" vs.toArray 0)).get? b = some o := fun b o q => ⟨Nat.ne_of_lt (Heap.lt_size (k1 b o q)), Heap.get?_push_of_some _ (k1 b o q)⟩
  show wpAny _ _ _ _ _ { s with heap := h1.push (seqObj "list" vs.toArray 0) }
  refine wpAny_bind (wpAny_holding (wpAny_call_entry slot_list_sort ⟨_, here, rfl⟩ entry_list_sort (list_sort_ord O here few (fun h2 => can h2 _ _ here keep) fun out hs hb => ⟨_, rfl, ?_⟩) (args_list_sort _)))
  obtain ⟨c, hc2⟩ := sortedHeap_at (vs := vs) (out := out.toArray) here
  refine wpAny_pure ⟨_, rfl, go _ h1.objs.size out hs hb (fun b u e => ?_) sz ⟨c, hc2⟩⟩
  have q := k1 b u e
  have hlt := Heap.lt_size q
  rw [sortedHeap_old (Nat.ne_of_lt hlt) (by rw [Heap.size_push]; exact Nat.lt_succ_of_lt hlt)]
  exact Heap.get?_push_of_some _ q
end
section
variable {X : Cx}
/-- sorted(xs), pairs of numbers, a list or a tuple -/
def rSortPS (K : PySem.W.Frag) : List V → Hp → VK → Prop := fun vs H Q => ∃ (a : Addr) (xs : List V) (k : V → Int × Int), vs = [V.ref a] ∧ (SqL K H a xs ∨ SqT K H a xs) ∧ (∀ x ∈ xs, ∃ t, x = V.ref t ∧ H t = some (.tup [.int (k x).1, .int (k x).2])) ∧ ∀ ys p, Srtd (ltP k) ys → Stb (ltP k) ys xs → H p = none → Q (.ref p) (upd H p (.lst ys))
theorem cr_sortPS : CallR X (.builtin "sorted") (rSortPS X.K) := by
  intro pins s σ H vs us Q I r h
  obtain ⟨a, xs, k, rfl, hs, hx, q⟩ := h
  rw [Vals.ref1 r]
  obtain ⟨its, rv, T, o, n, hT, ho, hc, hd, hz⟩ : ∃ (its : List Value), Vals xs its ∧ ∃ (T : String) (o : Obj) (n : Nat), (T = "list" ∨ T = "tuple") ∧ s.heap.get? a = some o ∧ o.cls = .type T ∧ o.data = .seq its.toArray n ∧ xs.length ≤ sizeLine := by
    rcases hs with hs | hs
    · obtain ⟨its, rv, hl, hz⟩ := I.list hs
      obtain ⟨o, ho, hc, n, hd⟩ := hl.isList
      exact ⟨its, rv, "list", o, n, .inl rfl, ho, hc, hd, hz⟩
    · obtain ⟨its, rv, hl, hz⟩ := I.tuple hs
      obtain ⟨o, ho, hc, n, hd⟩ := hl
      exact ⟨its, rv, "tuple", o, n, .inr rfl, ho, hc, hd, hz⟩
  obtain ⟨e1, e2⟩ := refs_back rv fun x m => by
    obtain ⟨t, e, _⟩ := hx x m
    exact ⟨t, e⟩
  have hp : ∀ v ∈ its, Srt.IsPair s.heap v (k (backV v)).1 (k (backV v)).2 := fun v hv => by
    obtain ⟨t, rfl⟩ := e2 v hv
    have hm : V.ref t ∈ xs := by rw [e1]; exact List.mem_map.mpr ⟨_, hv, rfl⟩
    obtain ⟨t2, e, ht⟩ := hx _ hm
    cases e
    obtain ⟨_, its2, r2, o, ho, hc, n, hd⟩ := I.hok _ _ ht
    obtain ⟨u1, u2, rfl, ri, rj⟩ := vals2 r2
    obtain ⟨t3, rfl⟩ := ri
    obtain ⟨t4, rfl⟩ := rj
    exact ⟨t, o, t3, t4, n, rfl, ho, hc, hd⟩
  refine sort_seq (swo_lex fun u => k (backV u)) hT ho hc hd (by rw [← rv.length]; exact hz) (fun h2 h1 a2 ha kk => ?_) fun h2 d out h1 hb kp hd2 hn => ?_
  · refine pairs_sortableO (s := { s with heap := h1 }) (by omega) (fun v hm => (hp v hm).keeps fun b o e _ => (kk b o e).2) fun o e => ?_
    have z : some o = some (seqObj "list" its.toArray 0) := e.symm.trans ha
    cases z
    intro y
    exact absurd (Value.type.inj y) (by decide)
  · have h3 : ∀ u ∈ out, ∃ a, u = Value.ref a := fun u hu => e2 u (hb.perm.mem_iff.mp hu)
    obtain ⟨c, hn⟩ := hn
    have st : Stb (ltP k) (out.map backV) xs := by
      rw [e1]
      exact Stb.map (ltP_swo k) backV hb
    refine ⟨.ref d, upd H d (.lst (out.map backV)), I.laid (t' := s.toks) kp hd2 ⟨?_, out, c, vals_back h3, hn⟩, rfl, q _ d (srtd_map h1) st (I.hok.fresh hd2)⟩
    rw [st.len]
    exact hz
end
end KW
set_option Elab.async false
set_option linter.all false
set_option maxRecDepth 100000
set_option maxHeartbeats 1000000
namespace KD
open PySem PySem.Spec PyProof.Rows L2
section
variable {X : Cx} {K : PySem.W.Frag}
theorem cr_sortPSK (h : X.K = K) : CallR X (.builtin "sorted") (KW.rSortPS K) := by
  subst h
  exact KW.cr_sortPS
end
section
variable {Ω : Obs} {A : Am} {E : XK} {ta tb tc : TE} {ma mb mc : M D} {t : TA} {n : Nat} {m : M (List D)} {K : PySem.W.Frag}
def gSortPS : List D → M (List D) := fun ds => ⟨fun _ Q _ => ∃ (x : D) (qs : List (Int × Int)), ds = [x] ∧ asSeq x = some (qs.map ipD) ∧ ∀ qs' : List (Int × Int), qs'.Perm qs → qs'.Pairwise lexLe → Q (qs'.map ipD), fun h _ ⟨x, ns, a, b, q⟩ => ⟨x, ns, a, b, fun x y z => h _ (q x y z)⟩⟩
theorem c_sortPS : CallO Ω E (KW.rSortPS K) gSortPS := fun A G H vs ds Q env Ex fr f r q => by
  obtain ⟨x, qs, rfl, hx, q⟩ := q
  obtain ⟨v, rfl, rv⟩ := r.one
  obtain ⟨a, us, rfl, ha, ru⟩ := rv.seqv (K := K) hx
  have eq := reps_keys fr.sub ru
  have all : ∀ v ∈ us, ∃ t p, v = V.ref t ∧ G t = some (.tup [.int (p : Int × Int).1, .int p.2]) := fun v hv => by
    obtain ⟨i, hi, e⟩ := List.mem_iff_getElem.mp hv
    obtain ⟨x, hx, rx⟩ := ru.at (List.getElem?_eq_some_iff.mpr ⟨hi, e⟩)
    obtain ⟨p, _, rfl⟩ := map_at hx
    obtain ⟨t, e, ht⟩ := rep_ip rx
    exact ⟨t, p, e, ht⟩
  refine ⟨a, us, keyAt H, rfl, seq_same fr.sub ha, fun x hx => ?_, fun ys p so st hp => ?_⟩
  · obtain ⟨t, p, rfl, ht⟩ := all x hx
    rw [keyAt_eq (fr.sub _ _ ht)]
    exact ⟨t, rfl, fr.sub _ _ ht⟩
  · refine q (ys.map (keyAt H)) (by rw [eq]; exact st.perm.map _) ?_ _ _ _ _ (Tr.allocOwn fr hp) (.of (.refl fr) hp) upd_same (keys_reps fr.sub fun v hv => all v (st.perm.mem_iff.mp hv)) (fr.sub.free hp) (A.fr fr.inv hp)
    refine List.Pairwise.map (R := fun x y => ltP (keyAt H) y x = false) (S := lexLe) (keyAt H) (fun x y h => ?_) so
    have h : SrtO.lexB (keyAt H y) (keyAt H x) = false := h
    have h' : ¬ ((keyAt H y).1 < (keyAt H x).1 ∨ ((keyAt H y).1 = (keyAt H x).1 ∧ (keyAt H y).2 < (keyAt H x).2)) := fun z => by
      rw [SrtO.lexB_iff.mpr z] at h
      cases h
    unfold lexLe
    omega
/-- pairs that rise are one list -/
theorem lex_one : ∀ {l m : List (Int × Int)}, l.Perm m → l.Pairwise lexLe → m.Pairwise lexLe → l = m
  | [], m, p, _, _ => List.Perm.nil_eq p
  | x :: l, [], p, _, _ => absurd p.length_eq (by simp)
  | x :: l, y :: m, p, hl, hm => by
    have h1 := List.pairwise_cons.mp hl
    have h2 := List.pairwise_cons.mp hm
    have e : x = y := by
      have a : x ∈ y :: m := p.mem_iff.mp List.mem_cons_self
      have b : y ∈ x :: l := p.mem_iff.mpr List.mem_cons_self
      rcases List.mem_cons.mp a with a | a
      · exact a
      · rcases List.mem_cons.mp b with b | b
        · exact b.symm
        · have z1 := h2.1 x a
          have z2 := h1.1 y b
          unfold lexLe at z1 z2
          exact Prod.ext (by omega) (by omega)
    subst e
    rw [lex_one (List.Perm.cons_inv p) h1.2 h2.2]
/-- a thing of one's own that is not among those of before is changed -/
theorem trTurn {G H G5 H5 : Hp} {L : Addr} {o u : HO} (t : Tr A G H G5 H5) (fresh : FreshO A G H L) (h : H5 L = some o) (mo : MutO o) (g : G5 L = none) (nw : A.nw L) : Tr A G H G5 (upd H5 L u) := by
  refine ⟨⟨A.put t.fr.inv nw h mo, fun b v q => ?_, t.fr.gd⟩, t.sub, fun b ws m hb nb gb => ?_⟩
  · rw [upd_ne (fun e => by rw [e, g] at q; cases q)]
    exact t.fr.sub _ _ q
  · have w := t.own b ws m hb nb gb
    exact ⟨by rw [upd_ne (fresh b ws m hb nb gb)]; exact w.1, w.2⟩
end
theorem eqd_nil {f : Bool → Bool} {xs : List D} {env : Env} {Q : D → Prop} {Ex : Exc → Prop} (hx : pl 60 (.lst xs)) (q : Q (.bl (f (decide (xs = []))))) : (gEqD f (.lst xs) (.lst [])).wp env Q Ex := by
  obtain ⟨a, b, c⟩ := pl_facts 60 (.lst xs) hx
  obtain ⟨a', b', c'⟩ := pl_facts 60 (.lst []) (show pl 60 (.lst []) from fun x hx => by cases hx)
  refine ⟨a, a', KW.shaped_of b (by omega), KW.shaped_of b' (by omega), ?_⟩
  show Q (.bl (f (PyData.eqv (.list (pys xs)) (.list (pys [])))))
  have e : PyData.eqv (.list (pys xs)) (.list (pys [])) = decide (xs = []) := by
    cases xs with
    | nil => simp [pys, PyData.eqv, PyData.eqvAll]
    | cons x xs => simp [pys, PyData.eqv, PyData.eqvAll]
  rw [e]
  exact q
end KD
set_option Elab.async false
set_option linter.all false
set_option maxRecDepth 100000
set_option maxHeartbeats 1000000
namespace KD
open PySem PySem.Spec PyProof.Rows L2
section
variable {X : Cx} {K : PySem.W.Frag}
theorem op_catAK (h : X.K = K) : OpR X (binaryOp .Add) (rCatA K) := by
  subst h
  exact op_catA
end
section
variable {Ω : Obs} {A : Am} {E : XK} {ta : TE} {ma : M D} {K : PySem.W.Frag}
def gCatA (x y : D) : M D := ⟨fun _ Q _ => ∃ xs ys, asTup x = some xs ∧ asTup y = some ys ∧ xs.length + ys.length ≤ 1000000 ∧ (xs = [] → Q y) ∧ (xs ≠ [] → ys = [] → Q x) ∧ (xs ≠ [] → ys ≠ [] → Q (.tup (xs ++ ys))), fun h _ ⟨xs, ys, a, b, c, q1, q2, q3⟩ => ⟨xs, ys, a, b, c, fun z => h _ (q1 z), fun z w => h _ (q2 z w), fun z w => h _ (q3 z w)⟩⟩
theorem op_catAd : OpD Ω (rCatA K) gCatA := fun A G H x y dx dy Q env Ex fr rx ry q => by
  obtain ⟨xs, ys, ex, ey, c, q1, q2, q3⟩ := q
  obtain ⟨a, us, rfl, h, ru⟩ := rx.tupv (K := K) ex
  obtain ⟨b, ws, rfl, h2, rw2⟩ := ry.tupv (K := K) ey
  have nu : us = [] ↔ xs = [] := by rw [← List.length_eq_zero_iff, ← List.length_eq_zero_iff, ru.length]
  have nw : ws = [] ↔ ys = [] := by rw [← List.length_eq_zero_iff, ← List.length_eq_zero_iff, rw2.length]
  refine ⟨a, b, us, ws, rfl, rfl, sqT_same fr.sub h, sqT_same fr.sub h2, by rw [sizeLine_eq, ru.length, rw2.length]; omega, fun e => q1 (nu.mp e) _ _ _ (.refl fr) ry, fun e1 e2 => q2 (fun z => e1 (nu.mpr z)) (nw.mp e2) _ _ _ (.refl fr) rx, fun e1 e2 p hp => ?_⟩
  have t2 := Tr.alloc fr (o := .tup (us ++ ws)) hp (fun _ => by intro z; cases z)
  exact q3 (fun z => e1 (nu.mpr z)) (fun z => e2 (nw.mpr z)) _ _ _ t2 (.tup upd_same ((Reps.app rw2 ru).mono t2.sub))
end
theorem eqvs_prs : ∀ l m : List (Int × Int), PyData.eqvAll (pys (l.map ipD)) (pys (m.map ipD)) = decide (l = m)
  | [], [] => by simp [pys, PyData.eqvAll]
  | [], _ :: _ => by simp [pys, PyData.eqvAll]
  | _ :: _, [] => by simp [pys, PyData.eqvAll]
  | i :: l, j :: m => by
    have ih := eqvs_prs l m
    obtain ⟨i1, i2⟩ := i
    obtain ⟨j1, j2⟩ := j
    simp only [List.map_cons, pys, PyData.eqvAll, ipD, py, PyData.eqv]
    rw [ih]
    by_cases h1 : i1 = j1 <;> by_cases h2 : i2 = j2 <;> by_cases h3 : l = m <;> simp [h1, h2, h3]
theorem pl_prs {k : Nat} {l : List (Int × Int)} : pl (k + 2) (.lst (l.map ipD)) := show pl (k + 2) (.lst _) from pl_map fun p _ => pl_tup2 pl_int pl_int
theorem eqd_prs {f : Bool → Bool} {l m : List (Int × Int)} {env : Env} {Q : D → Prop} {Ex : Exc → Prop} (q : Q (.bl (f (decide (l = m))))) : (gEqD f (.lst (l.map ipD)) (.lst (m.map ipD))).wp env Q Ex := by
  obtain ⟨a, b, c⟩ := pl_facts 60 (.lst (l.map ipD)) pl_prs
  obtain ⟨a', b', c'⟩ := pl_facts 60 (.lst (m.map ipD)) pl_prs
  refine ⟨a, a', KW.shaped_of b (by omega), KW.shaped_of b' (by omega), ?_⟩
  show Q (.bl (f (PyData.eqv (.list (pys (l.map ipD))) (.list (pys (m.map ipD))))))
  simp only [PyData.eqv]
  rw [eqvs_prs]
  exact q
def intP (p : Nat × Nat) : Int × Int := ((p.1 : Int), (p.2 : Int))
theorem intP_perm {l m : List (Nat × Nat)} : (l.map intP).Perm (m.map intP) ↔ l.Perm m := by
  constructor
  · intro h
    have z := h.map fun q : Int × Int => (q.1.toNat, q.2.toNat)
    rw [List.map_map, List.map_map] at z
    have e : ∀ l : List (Nat × Nat), l.map ((fun q : Int × Int => (q.1.toNat, q.2.toNat)) ∘ intP) = l := fun l => by
      conv => rhs; rw [← List.map_id l]
      apply List.map_congr_left
      rintro ⟨a, b⟩ _
      show (((a : Nat) : Int).toNat, ((b : Nat) : Int).toNat) = (a, b)
      rw [Int.toNat_natCast, Int.toNat_natCast]
    rw [e, e] at z
    exact z
  · exact fun h => h.map _
end KD
set_option Elab.async false
set_option linter.all false
set_option maxRecDepth 100000
set_option maxHeartbeats 3200000
namespace KW
open PySem PySem.Spec PyProof.Rows L2
section
variable {P : Program} {w : World} {A : Around} {R : Result → Shared → Prop}
/-- a plain list -/
def isPl (h : Heap) (a : Addr) (vs : List Value) : Prop := ∃ n, h.get? a = some { cls := .type "list", dict := none, data := .seq vs.toArray n, slots := #[] }
theorem isPl.keep {h h2 : Heap} {a : Addr} {vs : List Value} (x : isPl h a vs) (k : ∀ o, h.get? a = some o → h2.get? a = some o) : isPl h2 a vs := by
  obtain ⟨n, e⟩ := x
  exact ⟨n, k _ e⟩
end
end KW
set_option Elab.async false
set_option linter.all false
set_option maxRecDepth 100000
set_option maxHeartbeats 1000000
namespace KD
open PySem PySem.Spec PyProof.Rows L2
section
variable {X : Cx} {K : PySem.W.Frag}
/-- len(set(xs)), xs a list of numbers -/
def tLenSetD (K : PySem.W.Frag) (ta : TE) : TE := fun σ H Q => ta σ H fun x H1 => ∃ (l : Addr) (ns : List Int), x = .ref l ∧ SqL K H1 l (ns.map V.int) ∧ ns.length ≤ 4000 ∧ ∀ ks : List Int, ks.Nodup → (∀ k : Int, k ∈ ks ↔ k ∈ ns) → Q (.int (ks.length : Int)) H1
theorem pe_lenSetD (hK : X.K = K) {a : Expr} {ta : TE} {p p2 q pos : Pos} (hg : Gl X "len") (hm : X.mg "len" = none) (hg2 : Gl X "set") (hm2 : X.mg "set" = none) (ha : PE X a ta) (hc : X.calm = true := by rfl)
    (na : starEach [a] X.env = (false, eval a X.env) :: starEach [] X.env := by rfl) : PE X (.Call (.Name "len" p) [.Call (.Name "set" p2) [a] [] q] [] pos) (tLenSetD K ta) := by
  subst hK
  refine ⟨fun pins st σ H Q I hyp => ?_⟩
  refine Call_ (ld_blt I hg hm boot_len ?_)
  refine PyProof.Rows.callWith_builtin1 (PyProof.Rows.args_cons ?_ rfl) rfl rfl
  refine Call_ (ld_blt I hg2 hm2 PyProof.Rows.boot_set ?_)
  refine PyProof.Rows.callWith_type1 (PyProof.Rows.args_cons (thn (ha.run pins st σ H _ I hyp) fun v s1 ⟨x, H1, I1, r1, got⟩ => PyProof.Rows.args_nil ?_) na) na rfl
  obtain ⟨l, ns, rfl, kind, few, rest⟩ := got
  cases r1
  obtain ⟨its, vals, isl, _⟩ := I1.list kind
  refine KW.set_of_list ns (I1.ok.hd hc) isl.isList (by simpa using RZ.intsAre_vals vals) (by unfold scanBound; omega) fun h2 tk c R lc keeps => PyProof.Rows.args_nil ?_
  obtain ⟨o, es, ep, t, there, exact_, data, _, nodup, members, _, fits, count, _⟩ := R
  have J : Inv X pins σ H1 { s1 with heap := h2, toks := tk } := I1.kept keeps
  have z := rest (es.toList.map keyOf) nodup fun k => by rw [← members k, decide_eq_true_eq]
  rw [List.length_map, Array.length_toList] at z
  exact call_len_set there exact_ data fits (by omega) ⟨.int (es.size : Int), H1, J.tok _, ⟨_, rfl⟩, z⟩
end
section
variable {Ω : Obs} {A : Am} {E : XK} {ta : TE} {ma : M D} {K : PySem.W.Frag}
def mLenSet (a : M D) : M D := a.bind fun x => ⟨fun _ Q _ => ∃ ns : List Int, x = .lst (ns.map .int) ∧ ns.length ≤ 4000 ∧ ∀ ks : List Int, ks.Nodup → (∀ k : Int, k ∈ ks ↔ k ∈ ns) → Q (.int (ks.length : Int)), fun h _ ⟨ns, a, b, q⟩ => ⟨ns, a, b, fun ks x y => h _ (q ks x y)⟩⟩
theorem dn_lenSet (h : Den Ω A E ta ma) : Den Ω A E (tLenSetD K ta) (mLenSet ma) := fun G σ env H Q Ex k f q =>
  h G σ env H _ Ex k f (ma.mono (fun x q G1 v1 H1 t1 r1 => by
    obtain ⟨ns, rfl, le, q⟩ := q
    obtain ⟨a, us, rfl, h1, ru⟩ := r1.lstv rfl
    have eu := reps_intsG ru
    subst eu
    exact ⟨a, ns, rfl, SqL.of (t1.fr.sub _ _ h1), le, fun ks nd same => q ks nd same _ _ _ t1 (.int _)⟩) q)
end
end KD
set_option Elab.async false
set_option linter.all false
set_option maxRecDepth 100000
set_option maxHeartbeats 3200000
namespace KW
open PySem PySem.Spec PyProof.Rows L2
section
variable {X : Cx}
/-- what is made is locked -/
def tLkE (t : TE) : TE := fun σ H Q => t σ H fun v H1 => ∃ d u, v = .ref d ∧ H1 d = some u ∧ Mut (some u) ∧ ∀ od, Q v (upd H1 d (.frz od u))
theorem pe_keep {e : Expr} {t : TE} (h : PE X e t) : PE X e (tLkE t) := by
  refine ⟨fun pins s σ H Q I hw => ?_⟩
  refine thn (h.run pins s σ H _ I hw) fun v s1 ⟨x, H1, I1, r, d, u, ex, hd, mu, q⟩ => ?_
  obtain ⟨od, I2⟩ := I1.lock hd mu
  exact ⟨x, _, I2, r, q od⟩
end
end KW
set_option Elab.async false
set_option linter.all false
set_option maxRecDepth 100000
set_option maxHeartbeats 3200000
namespace KW
open PySem PySem.Spec PyProof.Rows L2
section
variable {X : Cx}
/-- the empty dict -/
abbrev noD : Obj := { cls := .type "dict", data := .dict #[] }
end
end KW
set_option Elab.async false
set_option linter.all false
set_option maxRecDepth 100000
set_option maxHeartbeats 3200000
namespace KW
open PySem PySem.Spec PyProof.Rows L2
end KW
set_option Elab.async false
set_option linter.all false
set_option maxRecDepth 100000
set_option maxHeartbeats 3200000
namespace KW
open PySem PySem.Spec PyProof.Rows L2
end KW
set_option Elab.async false
set_option linter.all false
set_option maxRecDepth 100000
set_option maxHeartbeats 3200000
namespace KW
open PySem PySem.Spec PyProof.Rows L2 SrtO
/-- by the first that differs; the shorter one first -/
def lexL : List Int → List Int → Bool
  | [], [] => false
  | [], _ :: _ => true
  | _ :: _, [] => false
  | a :: x, b :: y => if a = b then lexL x y else decide (a < b)
theorem lexL_irr : ∀ x y, lexL x y = true → lexL y x = false
  | [], [], h => by cases h
  | [], _ :: _, _ => rfl
  | _ :: _, [], h => by cases h
  | a :: x, b :: y, h => by
    unfold lexL at h ⊢
    by_cases e : a = b
    · rw [if_pos e] at h
      rw [if_pos e.symm]
      exact lexL_irr x y h
    · rw [if_neg e, decide_eq_true_eq] at h
      rw [if_neg (fun z => e z.symm), decide_eq_false_iff_not]
      omega
theorem lexL_tr : ∀ x y z, lexL x y = false → lexL y z = false → lexL x z = false
  | [], [], _, _, h => h
  | [], _ :: _, _, h, _ => by cases h
  | _ :: _, _, [], _, _ => rfl
  | _ :: _, [], _ :: _, _, h => by cases h
  | a :: x, b :: y, c :: z, h, k => by
    unfold lexL at h k ⊢
    by_cases e : a = b
    · subst e
      rw [if_pos rfl] at h
      by_cases f : a = c
      · rw [if_pos f] at k ⊢
        exact lexL_tr x y z h k
      · rw [if_neg f] at k ⊢
        exact k
    · rw [if_neg e, decide_eq_false_iff_not] at h
      by_cases f : b = c
      · subst f
        rw [if_neg e, decide_eq_false_iff_not]
        exact h
      · rw [if_neg f, decide_eq_false_iff_not] at k
        rw [if_neg (by omega), decide_eq_false_iff_not]
        omega
section
variable {prog : Program} {w : World} {A : Around} {E : Value → Shared → Prop} {s : Shared}
/-- v is a tuple of the numbers ks -/
def IsTupI (h : Heap) (v : Value) (ks : List Int) : Prop := ∃ (a : Addr) (o : Obj) (its : List Value) (n : Nat), v = .ref a ∧ h.get? a = some o ∧ o.cls = .type "tuple" ∧ o.data = .seq its.toArray n ∧ Vals (ks.map V.int) its
theorem IsTupI.keeps {h h' : Heap} {v : Value} {ks : List Int} (x : IsTupI h v ks) (k : ∀ b o, h.get? b = some o → o.cls = .type "tuple" → h'.get? b = some o) : IsTupI h' v ks :=
  let ⟨a, o, its, n, e, ho, hc, hd, r⟩ := x; ⟨a, o, its, n, e, k a o ho hc, hc, hd, r⟩
end
end KW
set_option Elab.async false
set_option linter.all false
set_option maxRecDepth 100000
set_option maxHeartbeats 3200000
namespace KW
open PySem PySem.Spec PyProof.Rows L2 SrtO
/-- a key as a value and back; a tuple of numbers among the keys -/
def vKey : V → Key
  | .int i => .inl i
  | .str x => .inr x
  | _ => .inl 0
/-- the key that stands at v -/
def keyAt (H : Hp) : Value → List Key
  | .ref q => match H q with
    | some (.tup vs) => vs.map vKey
    | _ => []
  | _ => []
end KW
set_option Elab.async false
set_option maxRecDepth 100000
set_option maxHeartbeats 3200000
namespace KW
open PySem PySem.Spec PyProof.Rows L2 TS
section
variable {P : Program} {w : World} {A : Around} {E : Value → Shared → Prop} {s : Shared} {a : Addr} {L : List (Addr × List Int)} {es : Array (Int × Value)} {ep : Nat} {t : SetTable}
/-- the place after so many steps -/
def walkP (P : Program) (w : World) (t : SetTable) (k : List Int) (c : Nat) : SetTable.Probe := nth t.mask (runAt t.mask (SetTable.bits (thash P w k) % (t.mask + 1)) (SetTable.bits (thash P w k))) c
theorem walkP_on (k : List Int) (c q : Nat) : nth t.mask (walkP P w t k c) q = walkP P w t k (c + q) := (nth_add t.mask c _ q).symm
theorem walkP_j (k : List Int) (c : Nat) : (walkP P w t k c).j = way t.mask (thash P w k) c := rfl
theorem nth_clean (m : Nat) : ∀ (n : Nat) (p : SetTable.Probe), p.dummy = none → (nth m p n).dummy = none
  | 0, _, h => h
  | n + 1, p, h => nth_clean m n (adv m p) (by unfold adv; split <;> exact h)
end
end KW
set_option Elab.async false
set_option maxRecDepth 100000
set_option maxHeartbeats 3200000
namespace KW
open PySem PySem.Spec PyProof.Rows L2 TS
end KW
set_option Elab.async false
set_option linter.all false
set_option maxRecDepth 100000
set_option maxHeartbeats 3200000
namespace KW
open PySem PySem.Spec PyProof.Rows L2
end KW
set_option Elab.async false
set_option linter.all false
set_option maxRecDepth 100000
set_option maxHeartbeats 3200000
namespace KW
open PySem PySem.Spec PyProof.Rows L2 PySem.Calls
end KW
set_option Elab.async false
set_option linter.all false
set_option maxRecDepth 100000
set_option maxHeartbeats 3200000
namespace KW
open PySem PySem.Spec PyProof.Rows L2 PySem.Calls PySem.SeqAt AutoSeq1 MeetsSeq MeetsSeq2 MeetsSeq3
end KW
set_option Elab.async false
set_option linter.all false
set_option maxRecDepth 100000
set_option maxHeartbeats 3200000
namespace KW
open PySem PySem.Spec PyProof.Rows L2
end KW
set_option Elab.async false
set_option linter.all false
set_option maxRecDepth 100000
set_option maxHeartbeats 1000000
namespace KD
open PySem PySem.Spec PyProof.Rows L2
def kD : L2.Key → D
  | .inl i => .int i
  | .inr x => .str x
section
variable {Ω : Obs} {A : Am} {E : XK} {K : PySem.W.Frag}
theorem repk {G : Hp} (k : L2.Key) : Rep Ω G (kV k) (kD k) := by
  cases k with
  | inl i => exact .int i
  | inr x => exact .str x
def valT (kvs : List (List L2.Key × D)) (k : List L2.Key) : Option D := (kvs.find? fun kv => decide (kv.1 = k)).map (·.2)
def putT (kvs : List (List L2.Key × D)) (k : List L2.Key) (v : D) : List (List L2.Key × D) :=
  if (kvs.any fun kv => decide (kv.1 = k)) = true then kvs.map (fun kv => if kv.1 = k then (kv.1, v) else kv) else kvs ++ [(k, v)]
theorem RepT.len {G : Hp} : ∀ {vs : List (List L2.Key × V)} {xs : List (List L2.Key × D)}, RepT Ω G vs xs → vs.length = xs.length
  | _, _, .nil => rfl
  | _, _, .cons _ r => by rw [List.length_cons, List.length_cons, r.len]
theorem RepT.val {G : Hp} (k : List L2.Key) : ∀ {vs : List (List L2.Key × V)} {xs : List (List L2.Key × D)}, RepT Ω G vs xs → (valV vs k = none ∧ valT xs k = none) ∨ ∃ v x, valV vs k = some v ∧ valT xs k = some x ∧ Rep Ω G v x
  | _, _, .nil => .inl ⟨rfl, rfl⟩
  | _, _, .cons (k := k') (v := v) (x := x) h r => by
    unfold valV valT
    by_cases e : k' = k
    · rw [List.find?_cons_of_pos (by simp [e]), List.find?_cons_of_pos (by simp [e])]
      exact .inr ⟨v, x, rfl, rfl, h⟩
    · rw [List.find?_cons_of_neg (by simp [e]), List.find?_cons_of_neg (by simp [e])]
      exact RepT.val k r
theorem RepT.any {G : Hp} (k : List L2.Key) : ∀ {vs : List (List L2.Key × V)} {xs : List (List L2.Key × D)}, RepT Ω G vs xs → (vs.any fun kv => decide (kv.1 = k)) = xs.any fun kv => decide (kv.1 = k)
  | _, _, .nil => rfl
  | _, _, .cons h r => by rw [List.any_cons, List.any_cons, RepT.any k r]
theorem RepT.app {G : Hp} {k : List L2.Key} {v : V} {x : D} (h : Rep Ω G v x) : ∀ {vs : List (List L2.Key × V)} {xs : List (List L2.Key × D)}, RepT Ω G vs xs → RepT Ω G (vs ++ [(k, v)]) (xs ++ [(k, x)])
  | _, _, .nil => .cons h .nil
  | _, _, .cons h' r => .cons h' (RepT.app h r)
theorem RepT.turn {G : Hp} {k : List L2.Key} {v : V} {x : D} (h : Rep Ω G v x) : ∀ {vs : List (List L2.Key × V)} {xs : List (List L2.Key × D)}, RepT Ω G vs xs → RepT Ω G (vs.map fun kv => if kv.1 = k then (kv.1, v) else kv) (xs.map fun kv => if kv.1 = k then (kv.1, x) else kv)
  | _, _, .nil => .nil
  | _, _, .cons (k := k') h' r => by
    rw [List.map_cons, List.map_cons]
    by_cases e : k' = k
    · rw [if_pos e, if_pos e]
      exact .cons h (RepT.turn h r)
    · rw [if_neg e, if_neg e]
      exact .cons h' (RepT.turn h r)
theorem RepT.put {G : Hp} {k : List L2.Key} {v : V} {x : D} (h : Rep Ω G v x) {vs : List (List L2.Key × V)} {xs : List (List L2.Key × D)} (r : RepT Ω G vs xs) : RepT Ω G (putK vs k v) (putT xs k x) := by
  unfold putK putT
  rw [r.any k]
  split
  · exact r.turn h
  · exact r.app h
end
end KD
set_option Elab.async false
set_option linter.all false
set_option maxRecDepth 100000
set_option maxHeartbeats 1000000
namespace KD
open PySem PySem.Spec PyProof.Rows L2
section
variable {Ω : Obs} {A : Am} {E : XK} {K : PySem.W.Frag}
/-- a thing of one's own is locked for good -/
theorem trLock {G H G5 H5 : Hp} {L : Addr} {o u : HO} (t : Tr A G H G5 H5) (fresh : FreshO A G H L) (h : H5 L = some o) (mo : MutO o) (g : G5 L = none) (nw : A.nw L) (fx : Fx u) : Tr A G H (upd G5 L u) (upd H5 L u) := by
  have t2 := trTurn (u := u) t fresh h mo g nw
  refine ⟨⟨t2.fr.inv, fun b v q => ?_, fun b v q => ?_⟩, t.sub.trans (sameNew g), fun b ws m hb nb gb => ?_⟩
  · by_cases e : b = L
    · subst e
      rw [upd_same] at q ⊢
      exact q
    · rw [upd_ne e] at q ⊢
      exact t.fr.sub _ _ q
  · by_cases e : b = L
    · subst e
      rw [upd_same] at q
      cases q
      exact A.fx t2.fr.inv upd_same fx
    · rw [upd_ne e] at q
      exact t.fr.gd _ _ q
  · have w := t.own b ws m hb nb gb
    rw [upd_ne (fresh b ws m hb nb gb), upd_ne (fresh b ws m hb nb gb)]
    exact w
/-- what is told is new -/
def DenF (Ω : Obs) (A : Am) (E : XK) (t : TE) (m : M D) : Prop := ∀ G σ env H Q Ex, Ok Ω A G σ env H → Rf Ω A G H E Ex → m.wp env (fun d => ∀ (G' : Hp) (a : Addr) (H' : Hp), Tr A G H G' H' → Rep Ω G' (.ref a) d → G a = none → Q (.ref a) H') Ex → t σ H Q
theorem DenF.d {t : TE} {m : M D} (h : DenF Ω A E t m) : Den Ω A E t m := fun G σ env H Q Ex k f q => h G σ env H Q Ex k f (m.mono (fun d q G' a H' t r _ => q G' _ H' t r) q)
end
end KD
set_option Elab.async false
set_option linter.all false
set_option maxRecDepth 100000
set_option maxHeartbeats 1000000
namespace KD
open PySem PySem.Spec PyProof.Rows L2
section
variable {Ω : Obs} {A : Am} {E : XK} {K : PySem.W.Frag}
theorem RepT.keys {G : Hp} : ∀ {vs : List (List L2.Key × V)} {xs : List (List L2.Key × D)}, RepT Ω G vs xs → vs.map (·.1) = xs.map (·.1)
  | _, _, .nil => rfl
  | _, _, .cons _ r => by rw [List.map_cons, List.map_cons, r.keys]
end
end KD
set_option Elab.async false
set_option linter.all false
set_option maxRecDepth 100000
set_option maxHeartbeats 1000000
namespace KD
open PySem PySem.Spec PyProof.Rows L2
def flD : D → Bool
  | .int _ => true
  | .bl _ => true
  | .str _ => true
  | .non => true
  | _ => false
section
variable {Ω : Obs} {A : Am} {E : XK} {K : PySem.W.Frag}
theorem RepT.mem {G : Hp} : ∀ {vs : List (List L2.Key × V)} {xs : List (List L2.Key × D)}, RepT Ω G vs xs → ∀ p ∈ vs, ∃ q ∈ xs, q.1 = p.1 ∧ Rep Ω G p.2 q.2
  | _, _, .nil, p, h => nomatch h
  | _, _, .cons r t, p, h => by
    rcases List.mem_cons.mp h with rfl | h
    · exact ⟨_, List.mem_cons_self .., rfl, r⟩
    · obtain ⟨q, m, e⟩ := t.mem p h
      exact ⟨q, List.mem_cons_of_mem _ m, e⟩
end
end KD
set_option Elab.async false
set_option linter.all false
set_option maxRecDepth 100000
set_option maxHeartbeats 1000000
namespace KW
open PySem PySem.Spec PyProof.Rows L2
def lstep (m i : Nat) : Nat := (i * 5 + 1) % (m + 1)
theorem lcg_front (m i : Nat) : ∀ k, lcgI m (lstep m i) k = lcgI m i (k + 1)
  | 0 => rfl
  | k + 1 => by
    show lstep m (lcgI m (lstep m i) k) = lstep m (lcgI m i (k + 1))
    rw [lcg_front m i k]
theorem lcg_join (m i a : Nat) : ∀ k, lcgI m (lcgI m i a) k = lcgI m i (a + k)
  | 0 => rfl
  | k + 1 => by
    show lstep m (lcgI m (lcgI m i a) k) = lstep m (lcgI m i (a + k))
    rw [lcg_join m i a k]
/-- the slots metB in n steps, as bits -/
def metB (m : Nat) : Nat → Nat → Nat → Nat
  | 0, _, s => s
  | n + 1, i, s => metB m n (lstep m i) (s ||| 2 ^ i)
theorem metB_bit (m : Nat) : ∀ (n i s j : Nat), (metB m n i s).testBit j = true → s.testBit j = true ∨ ∃ k, k < n ∧ lcgI m i k = j
  | 0, _, _, _, h => .inl h
  | n + 1, i, s, j, h => by
    rcases metB_bit m n (lstep m i) (s ||| 2 ^ i) j h with z | ⟨k, hk, e⟩
    · rw [Nat.testBit_or, Bool.or_eq_true] at z
      rcases z with z | z
      · exact .inl z
      · rw [Nat.testBit_two_pow, decide_eq_true_eq] at z
        exact .inr ⟨0, Nat.succ_pos _, z⟩
    · rw [lcg_front] at e
      exact .inr ⟨k + 1, by omega, e⟩
/-- an odd mask whose slots are all metB -/
structure Mk2 (m : Nat) : Prop where
  is : m = 7 ∨ m = 31 ∨ m = 127 ∨ m = 511 ∨ m = 2047
  odd : m % 2 = 1
  most : m ≤ 2047
  all : metB m (m + 1) 0 0 = 2 ^ (m + 1) - 1
  round : lcgI m 0 (m + 1) = 0
theorem mk7 : Mk2 7 := ⟨by decide, by decide, by decide, by decide +kernel, by decide +kernel⟩
theorem mk31 : Mk2 31 := ⟨by decide, by decide, by decide, by decide +kernel, by decide +kernel⟩
theorem mk127 : Mk2 127 := ⟨by decide, by decide, by decide, by decide +kernel, by decide +kernel⟩
theorem mk511 : Mk2 511 := ⟨by decide, by decide, by decide, by decide +kernel, by decide +kernel⟩
theorem mk2047 : Mk2 2047 := ⟨by decide, by decide, by decide, by decide +kernel, by decide +kernel⟩
theorem Mk2.zero {m : Nat} (M : Mk2 m) {j : Nat} (hj : j ≤ m) : ∃ k, k ≤ m ∧ lcgI m 0 k = j := by
  have b : (metB m (m + 1) 0 0).testBit j = true := by
    rw [M.all, Nat.testBit_two_pow_sub_one, decide_eq_true_eq]
    omega
  rcases metB_bit m _ _ _ _ b with z | ⟨k, hk, e⟩
  · rw [Nat.zero_testBit] at z
    cases z
  · exact ⟨k, by omega, e⟩
theorem Mk2.any {m : Nat} (M : Mk2 m) {i j : Nat} (hi : i ≤ m) (hj : j ≤ m) : ∃ k, k ≤ m ∧ lcgI m i k = j := by
  obtain ⟨a, ha, rfl⟩ := M.zero hi
  obtain ⟨b, hb, rfl⟩ := M.zero hj
  by_cases c : a ≤ b
  · exact ⟨b - a, by omega, by rw [lcg_join, show a + (b - a) = b by omega]⟩
  · refine ⟨m + 1 + b - a, by omega, ?_⟩
    rw [lcg_join, show a + (m + 1 + b - a) = (m + 1) + b by omega, ← lcg_join, M.round]
theorem Mk2.runs {m : Nat} (M : Mk2 m) (h : Int) {j : Nat} (hj : j ≤ m) : ∃ n, n ≤ m + 12 ∧ runI m (SetTable.bits h) n = j := by
  obtain ⟨k, hk, e⟩ := M.any (runI_le m (SetTable.bits h) 12) hj
  rw [← runI_tail (bits_lt h)] at e
  exact ⟨_, by omega, e⟩
/-- the first place on the way that is not taken -/
theorem Mk2.first {m : Nat} (M : Mk2 m) (h : Int) {l : List Nat} (hl : l.length ≤ m) : ∃ K, K < 10 * SetTable.turns m ∧ way m h K ∉ l ∧ ∀ k, k < K → way m h k ∈ l := by
  obtain ⟨j, hj, nj⟩ := st_missing l (m + 1) (by omega)
  obtain ⟨n, hn, en⟩ := M.runs h (Nat.le_of_lt_succ hj)
  obtain ⟨k, hk, ek⟩ := run_nth m (SetTable.bits h) n
  have ew : way m h k = j := by
    show (nth m _ k).j = j
    rw [ek]
    exact en
  obtain ⟨K, a1, a2, a3⟩ := st_least (p := fun k => way m h k ∉ l) k (by rw [ew]; exact nj)
  refine ⟨K, by unfold SetTable.turns; omega, a2, fun q hq => ?_⟩
  by_cases z : way m h q ∈ l
  · exact z
  · exact absurd z (a3 q hq)
theorem way_in (m : Nat) (h : Int) (k : Nat) : way m h k ≤ m := by
  have hi : SetTable.bits h % (m + 1) < m + 1 := Nat.mod_lt _ (Nat.succ_pos m)
  have r := runEnd_bd (m := m) (Nat.le_of_lt_succ hi)
  have q := nth_in (m := m) k (runAt m (SetTable.bits h % (m + 1)) (SetTable.bits h)) (by unfold runAt; dsimp only; omega)
  exact Nat.le_trans (Nat.le_add_right _ _) q
theorem size_308 : SetTable.sizeAbove (SetTable.grown 77) = 512 := by decide +kernel
theorem size_1228 : SetTable.sizeAbove (SetTable.grown 307) = 2048 := by decide +kernel
end KW
set_option Elab.async false
set_option linter.all false
set_option maxRecDepth 100000
set_option maxHeartbeats 1000000
namespace KW
open PySem PySem.Spec PyProof.Rows L2
/-- a slot, a tuple's address, its numbers -/
abbrev En := Nat × Addr × List Int
section
variable {P : Program} {w : World}
def esOf (P : Program) (w : World) (T : List En) : List (Int × Value) := T.map fun e => (thash P w e.2.2, Value.ref e.2.1)
structure Laid (P : Program) (w : World) (t : SetTable) (T : List En) : Prop where
  pl : t.place.toList = T.map (·.1)
  ris : Ris (T.map (·.1))
  dm : t.dummies = #[]
  mask : Mk2 t.mask
  le : ∀ e ∈ T, e.1 ≤ t.mask
  ways : ∀ e ∈ T, ∃ k, way t.mask (thash P w e.2.2) k = e.1 ∧ ∀ q, q < k → way t.mask (thash P w e.2.2) q ∈ T.map (·.1)
theorem Laid.ris' {t : SetTable} {T : List En} (Z : Laid P w t T) : Ris t.place.toList := by
  rw [Z.pl]
  exact Z.ris
theorem Laid.size {t : SetTable} {T : List En} (Z : Laid P w t T) : t.place.size = T.length := by
  have e := congrArg List.length Z.pl
  rw [List.length_map] at e
  exact e
theorem Laid.fill {t : SetTable} {T : List En} (Z : Laid P w t T) : t.fill = T.length := by
  unfold SetTable.fill
  rw [Z.size, Z.dm]
  rfl
/-- where a new one goes -/
def insE (T : List En) (p : Nat) (e : En) : List En := T.take p ++ e :: T.drop p
theorem insE_map {α : Type} (f : En → α) (T : List En) (p : Nat) (e : En) : (insE T p e).map f = (T.map f).take p ++ f e :: (T.map f).drop p := by
  unfold insE
  rw [List.map_append, List.map_cons, List.map_take, List.map_drop]
theorem insE_perm (T : List En) (p : Nat) (e : En) : (insE T p e).Perm (e :: T) := put_perm T p e
theorem Laid.put {t : SetTable} {T : List En} (Z : Laid P w t T) {x : Addr} {k : List Int} {K : Nat} (free : way t.mask (thash P w k) K ∉ T.map (·.1)) (taken : ∀ q, q < K → way t.mask (thash P w k) q ∈ T.map (·.1)) :
    Laid P w (t.put (way t.mask (thash P w k) K)).1 (insE T (SetTable.below t.place (way t.mask (thash P w k) K)) (way t.mask (thash P w k) K, x, k)) := by
  have lj := way_in t.mask (thash P w k) K
  generalize hj : way t.mask (thash P w k) K = j at free lj ⊢
  have ep : (t.put j).1.place.toList = (insE T (SetTable.below t.place j) (j, x, k)).map (·.1) := by
    rw [put_place, insE_map, Z.pl]
  have mem : ∀ e : En, e ∈ insE T (SetTable.below t.place j) (j, x, k) ↔ e = (j, x, k) ∨ e ∈ T := fun e => mem_ins
  have up : ∀ y, y ∈ T.map (·.1) → y ∈ (insE T (SetTable.below t.place j) (j, x, k)).map (·.1) := fun y hy => by
    obtain ⟨e, he, rfl⟩ := List.mem_map.mp hy
    exact List.mem_map.mpr ⟨e, (mem e).mpr (.inr he), rfl⟩
  refine ⟨ep, ?_, put_dm Z.dm j, Z.mask, fun e he => ?_, fun e he => ?_⟩
  · rw [← ep]
    refine ris_insert Z.ris' fun z => free ?_
    rw [← Z.pl]
    exact List.mem_of_getElem? (by rw [Array.getElem?_toList]; exact z)
  · rcases (mem e).mp he with rfl | h
    · exact lj
    · exact Z.le e h
  · show ∃ q, way t.mask (thash P w e.2.2) q = e.1 ∧ _
    rcases (mem e).mp he with rfl | h
    · exact ⟨K, hj, fun q hq => up _ (taken q hq)⟩
    · obtain ⟨q, e1, e2⟩ := Z.ways e h
      exact ⟨q, e1, fun r hr => up _ (e2 r hr)⟩
/-- who sits where, behind n hashes -/
structure Sits (m : Nat) (hs : List Int) (n : Nat) (owner : Array (Option Nat)) (pos : Nat → Nat) : Prop where
  sz : owner.size = m + 1
  own : ∀ i, i < n → pos i ≤ m ∧ oAt owner (pos i) = some i ∧ ∃ K, way m (hs.getD i 0) K = pos i ∧ ∀ q, q < K → ∃ i', i' < n ∧ pos i' = way m (hs.getD i 0) q
  all : ∀ j, j ≤ m → oAt owner j ≠ none → ∃ i, i < n ∧ pos i = j
theorem sits0 (m : Nat) (hs : List Int) : Sits m hs 0 (Array.replicate (m + 1) none) (fun _ => 0) :=
  ⟨by simp, fun i h => absurd h (Nat.not_lt_zero i), fun j hj h => absurd (oAt_init hj) h⟩
theorem Sits.next {m : Nat} (M : Mk2 m) {hs : List Int} {n : Nat} {owner : Array (Option Nat)} {pos : Nat → Nat} (Z : Sits m hs n owner pos) (hn : n ≤ m) :
    ∃ j, SetTable.layClean.free m owner (SetTable.turns m) (SetTable.bits (hs.getD n 0) % (m + 1)) (SetTable.bits (hs.getD n 0)) = some j ∧ Sits m hs (n + 1) (owner.setIfInBounds j (some n)) (fun i => if i = n then j else pos i) := by
  generalize hh : hs.getD n 0 = h
  have taken : ∀ j, j ≤ m → (oAt owner j ≠ none ↔ j ∈ (List.range n).map pos) := fun j hj => by
    rw [List.mem_map]
    refine ⟨fun z => ?_, fun ⟨i, hi, e⟩ => ?_⟩
    · obtain ⟨i, hi, e⟩ := Z.all j hj z
      exact ⟨i, List.mem_range.mpr hi, e⟩
    · rw [← e, (Z.own i (List.mem_range.mp hi)).2.1]
      exact fun z => nomatch z
  have len : ((List.range n).map pos).length ≤ m := by rw [List.length_map, List.length_range]; exact hn
  obtain ⟨K, _, k2, k3⟩ := M.first h len
  have lj := way_in m h K
  have bound : ∃ r, r < SetTable.turns m ∧ K ≤ off m (SetTable.bits h % (m + 1)) (SetTable.bits h) r := by
    obtain ⟨j, hj, nj⟩ := st_missing ((List.range n).map pos) (m + 1) (by omega)
    obtain ⟨r, hr, er⟩ := M.runs h (Nat.le_of_lt_succ hj)
    refine ⟨r, by unfold SetTable.turns; omega, ?_⟩
    have ew : way m h (off m (SetTable.bits h % (m + 1)) (SetTable.bits h) r) = j := by
      show (nth m (runAt m _ _) (off m _ _ r)).j = j
      rw [nth_off, itL_run]
      exact er
    by_cases c : K ≤ off m (SetTable.bits h % (m + 1)) (SetTable.bits h) r
    · exact c
    · exact absurd (ew ▸ k3 _ (by omega)) nj
  obtain ⟨r, hr, hK⟩ := bound
  have nofree : oAt owner (way m h K) = none := by
    cases e : oAt owner (way m h K) with
    | none => rfl
    | some v => exact absurd ((taken _ lj).mp (by rw [e]; exact fun z => nomatch z)) k2
  have fr := free_spec m owner (SetTable.turns m) r (SetTable.bits h % (m + 1)) (SetTable.bits h) K hr hK (fun q hq => by
    have z := (taken _ (way_in m h q)).mpr (k3 q hq)
    show (oAt owner (way m h q)).isNone = false
    cases e : oAt owner (way m h q) with
    | none => exact absurd e z
    | some v => rfl) (by
    show (oAt owner (way m h K)).isNone = true
    rw [nofree]
    rfl)
  refine ⟨way m h K, fr, ?_⟩
  generalize hj : way m h K = j at lj nofree k2
  have js : j < owner.size := by rw [Z.sz]; omega
  have far : ∀ i, i < n → pos i ≠ j := fun i hi e => k2 (by rw [← e]; exact List.mem_map.mpr ⟨i, List.mem_range.mpr hi, rfl⟩)
  refine ⟨by rw [Array.size_setIfInBounds]; exact Z.sz, fun i hi => ?_, fun y hy z => ?_⟩
  · by_cases e : i = n
    · subst e
      rw [if_pos rfl, hh]
      refine ⟨lj, oAt_set_self _ js, K, hj, fun q hq => ?_⟩
      obtain ⟨i', hi', e'⟩ := List.mem_map.mp (k3 q hq)
      have l' := List.mem_range.mp hi'
      exact ⟨i', by omega, by rw [if_neg (by omega)]; exact e'⟩
    · rw [if_neg e]
      have li : i < n := by omega
      obtain ⟨a1, a2, K', a3, a4⟩ := Z.own i li
      refine ⟨a1, by rw [oAt_set_ne _ (far i li)]; exact a2, K', a3, fun q hq => ?_⟩
      obtain ⟨i', hi', e'⟩ := a4 q hq
      exact ⟨i', by omega, by rw [if_neg (by omega)]; exact e'⟩
  · by_cases e : y = j
    · exact ⟨n, Nat.lt_succ_self n, by rw [if_pos rfl, e]⟩
    · rw [oAt_set_ne _ e] at z
      obtain ⟨i, hi, ei⟩ := Z.all y hy z
      exact ⟨i, by omega, by rw [if_neg (by omega)]; exact ei⟩
theorem sits_all {m : Nat} (M : Mk2 m) (hs : List Int) : ∀ n, n ≤ hs.length → n ≤ m + 1 → ∃ owner pos, (hs.take n).foldl (stepF m) (some (Array.replicate (m + 1) none, 0)) = some (owner, n) ∧ Sits m hs n owner pos
  | 0, _, _ => ⟨_, _, rfl, sits0 m hs⟩
  | n + 1, h1, h2 => by
    obtain ⟨owner, pos, e, Z⟩ := sits_all M hs n (by omega) (by omega)
    obtain ⟨j, f, Z'⟩ := Z.next M (by omega)
    refine ⟨_, _, ?_, Z'⟩
    have e3 : hs[n]? = some (hs.getD n 0) := by rw [List.getD_eq_getElem?_getD, List.getElem?_eq_getElem (by omega)]; rfl
    rw [List.take_add_one, e3, List.foldl_append, e]
    exact stepF_some f
theorem clean_ok {m : Nat} (M : Mk2 m) (hs : Array Int) (h : hs.size ≤ m) : ∃ owner pos, SetTable.layClean m hs = some owner ∧ Sits m hs.toList hs.size owner pos := by
  obtain ⟨owner, pos, e, Z⟩ := sits_all M hs.toList hs.size (Nat.le_refl _) (by omega)
  refine ⟨owner, pos, ?_, Z⟩
  have e2 : hs.toList.take hs.size = hs.toList := List.take_of_length_le (Nat.le_refl _)
  rw [e2] at e
  rw [layClean_eq, e]
  rfl
theorem live_perm {m : Nat} {hs : List Int} {n : Nat} {owner : Array (Option Nat)} {pos : Nat → Nat} (Z : Sits m hs n owner pos) : (liveOf m owner).Perm ((List.range n).map fun i => (pos i, i)) := by
  have up : (List.range (m + 1)).Pairwise (· < ·) := List.pairwise_lt_range
  have r := (ris_live (fun j => owner.getD j none) (List.range (m + 1)) up).1
  have nd : (liveOf m owner).Nodup := List.Pairwise.of_map (S := fun a b : Nat => a < b) (·.1) (fun a b h e => by rw [e] at h; exact Nat.lt_irrefl _ h) r
  have nd2 : ((List.range n).map fun i => (pos i, i)).Nodup := List.Pairwise.map (R := fun a b : Nat => a ≠ b) _ (fun a b h e => h (congrArg Prod.snd e)) List.nodup_range
  refine (List.perm_ext_iff_of_nodup nd nd2).mpr fun q => ?_
  obtain ⟨j, i⟩ := q
  rw [mem_live Z.sz, List.mem_map]
  refine ⟨fun ⟨hj, e⟩ => ?_, fun ⟨i', hi', e⟩ => ?_⟩
  · obtain ⟨i', hi', e'⟩ := Z.all j hj (by rw [e]; exact fun z => nomatch z)
    have e2 := (Z.own i' hi').2.1
    rw [e', e] at e2
    have e3 : i = i' := Option.some.inj e2
    exact ⟨i', List.mem_range.mpr hi', by rw [e', e3]⟩
  · injection e with e1 e2
    subst e1
    subst e2
    have z := Z.own i' (List.mem_range.mp hi')
    exact ⟨z.1, z.2.1⟩
theorem range_own {α : Type} (d : α) (l : List α) : (List.range l.length).map (fun i => l.getD i d) = l := by
  apply List.ext_getElem?
  intro i
  rw [List.getElem?_map]
  by_cases h : i < l.length
  · rw [List.getElem?_range h, List.getElem?_eq_getElem h]
    show some (l.getD i d) = _
    rw [List.getD_eq_getElem?_getD, List.getElem?_eq_getElem h]
    rfl
  · rw [List.getElem?_eq_none (by rw [List.length_range]; omega), List.getElem?_eq_none (by omega)]
    rfl
theorem fm_map {α β : Type} (f : α → Option β) (g : α → β) : ∀ {l : List α}, (∀ x ∈ l, f x = some (g x)) → l.filterMap f = l.map g
  | [], _ => rfl
  | x :: l, h => by rw [List.filterMap_cons_some (h x (List.mem_cons_self ..)), List.map_cons, fm_map f g fun y hy => h y (List.mem_cons_of_mem _ hy)]
/-- all laid anew -/
theorem relaid_big {t : SetTable} {T : List En} {es : Array (Int × Value)} (he : es.toList = esOf P w T) {wanted M : Nat} (hw : SetTable.sizeAbove wanted - 1 = M) (hM : Mk2 M) (hn : T.length ≤ M) :
    ∃ t' order T', t.relaid (es.map (·.1)) wanted = some (t', order) ∧ (order.filterMap (es[·]?)).toList = esOf P w T' ∧ (T'.map (·.2)).Perm (T.map (·.2)) ∧ Laid P w t' T' ∧ t'.mask = M ∧ t'.led = t.led ∧ t'.plain = t.plain := by
  have sz : es.size = T.length := by
    have z := congrArg List.length he
    unfold esOf at z
    rw [List.length_map] at z
    exact z
  obtain ⟨owner, pos, e, Z⟩ := clean_ok hM (es.map (·.1)) (by rw [Array.size_map, sz]; exact hn)
  rw [Array.size_map, sz] at Z
  have lp := live_perm Z
  have mem : ∀ q : Nat × Nat, q ∈ liveOf M owner ↔ q.2 < T.length ∧ pos q.2 = q.1 := fun q => by
    rw [lp.mem_iff, List.mem_map]
    exact ⟨fun ⟨i, hi, ei⟩ => by rw [← ei]; exact ⟨List.mem_range.mp hi, rfl⟩, fun ⟨a, b⟩ => ⟨q.2, List.mem_range.mpr a, by rw [b]⟩⟩
  have hash : ∀ i, i < T.length → (es.map (·.1)).toList.getD i 0 = thash P w (T.getD i (0, 0, [])).2.2 := fun i hi => by
    rw [Array.toList_map, he]
    unfold esOf
    rw [List.map_map, List.getD_eq_getElem?_getD, List.getD_eq_getElem?_getD, List.getElem?_map, List.getElem?_eq_getElem hi]
    rfl
  refine ⟨tabOf t M owner, ((liveOf M owner).map (·.2)).toArray, (liveOf M owner).map fun q => (q.1, (T.getD q.2 (0, 0, [])).2), ?_, ?_, ?_, ⟨?_, ?_, rfl, hM, fun y hy => ?_, fun y hy => ?_⟩, rfl, rfl, rfl⟩
  · rw [relaid_eq, hw, e]
    rfl
  · rw [Array.toList_filterMap]
    show ((liveOf M owner).map (·.2)).filterMap _ = _
    unfold esOf
    rw [List.map_map, List.filterMap_map]
    refine fm_map _ _ fun q hq => ?_
    have hi := ((mem q).mp hq).1
    show es[q.2]? = _
    rw [← Array.getElem?_toList, he]
    unfold esOf
    have ed : T.getD q.2 (0, 0, []) = T[q.2] := by rw [List.getD_eq_getElem?_getD, List.getElem?_eq_getElem hi]; rfl
    rw [List.getElem?_map, List.getElem?_eq_getElem hi, ← ed]
    rfl
  · rw [List.map_map]
    refine (lp.map _).trans ?_
    rw [List.map_map]
    have z := congrArg (List.map fun e : En => e.2) (range_own (0, 0, []) T)
    rw [List.map_map] at z
    rw [← z]
    exact .refl _
  · show (liveOf M owner).map (·.1) = _
    rw [List.map_map]
    rfl
  · rw [List.map_map]
    have up : (List.range (M + 1)).Pairwise (· < ·) := List.pairwise_lt_range
    exact (ris_live (fun j => owner.getD j none) (List.range (M + 1)) up).1
  · obtain ⟨q, hq, rfl⟩ := List.mem_map.mp hy
    obtain ⟨a, b⟩ := (mem q).mp hq
    rw [← b]
    exact (Z.own q.2 a).1
  · obtain ⟨q, hq, rfl⟩ := List.mem_map.mp hy
    obtain ⟨a, b⟩ := (mem q).mp hq
    obtain ⟨_, _, K, k1, k2⟩ := Z.own q.2 a
    rw [hash q.2 a] at k1 k2
    refine ⟨K, k1.trans b, fun r hr => ?_⟩
    obtain ⟨i', hi', e'⟩ := k2 r hr
    exact List.mem_map.mpr ⟨_, List.mem_map.mpr ⟨(pos i', i'), (mem _).mpr ⟨hi', rfl⟩, rfl⟩, e'⟩
end
end KW
set_option Elab.async false
set_option linter.all false
set_option maxRecDepth 100000
set_option maxHeartbeats 3200000
namespace KW
open PySem PySem.Spec PyProof.Rows L2 TS
structure SetB (P : Program) (w : World) (h : Heap) (a : Addr) (T : List En) (es : Array (Int × Value)) (ep : Nat) (t : SetTable) : Prop where
  ob : ∃ o, h.get? a = some o ∧ o.ExactSet ∧ o.data = .set es ep t
  ents : es.toList = esOf P w T
  tab : Laid P w t T
  keys : (T.map fun e => e.2.2).Nodup
  tups : ∀ e ∈ T, IsT P w h e.2.2 e.2.1
  pure_ : t.plain = true
  led : w.params.followText "set-order" = true ∨ t.led = true
  loose : T.length * 5 < t.mask * 3
  most : T.length < 1000
section
variable {P : Program} {w : World} {A : Around} {E : Value → Shared → Prop} {s : Shared} {a : Addr} {T : List En} {es : Array (Int × Value)} {ep : Nat} {t : SetTable}
theorem ents_size (h : es.toList = esOf P w T) : es.size = T.length := by
  have z := congrArg List.length h
  unfold esOf at z
  rw [List.length_map] at z
  exact z
theorem ents_at (h : es.toList = esOf P w T) {i : Nat} {e : En} (hi : T[i]? = some e) : es[i]? = some (thash P w e.2.2, Value.ref e.2.1) := by
  have z : es.toList[i]? = some (thash P w e.2.2, Value.ref e.2.1) := by
    rw [h]
    unfold esOf
    rw [List.getElem?_map, hi]
    rfl
  rw [← Array.getElem?_toList]
  exact z
theorem Laid.fits (Z : Laid P w t T) (h : es.toList = esOf P w T) (l : T.length ≤ t.mask) : t.fits es.size = true := by
  unfold SetTable.fits
  rw [Z.fill, Z.size, ents_size h, Bool.and_eq_true, beq_iff_eq, decide_eq_true_eq]
  exact ⟨rfl, l⟩
theorem SetB.fit (R : SetB P w s.heap a T es ep t) : t.fits es.size = true := R.tab.fits R.ents (by have := R.loose; omega)
theorem Laid.gives (Z : Laid P w t T) : ¬ t.gaveWay = true := by
  unfold SetTable.gaveWay
  rw [Z.mask.odd]
  decide
theorem Laid.slot_of (Z : Laid P w t T) {i : Nat} {e : En} (h : T[i]? = some e) : t.place.toList[i]? = some e.1 := by
  rw [Z.pl, List.getElem?_map, h]
  rfl
theorem Laid.at_slot (Z : Laid P w t T) {i j : Nat} (h : t.place.toList[i]? = some j) : ∃ e, T[i]? = some e ∧ e.1 = j := by
  rw [Z.pl, List.getElem?_map] at h
  exact Option.map_eq_some_iff.mp h
theorem seekB_from (add : Bool) (R : SetB P w s.heap a T es ep t) {x : Addr} {k : List Int} (hx : IsT P w s.heap k x) (hu : A.units < cLine) {K : Nat} (small : K < 10 * SetTable.turns t.mask)
    (free : way t.mask (thash P w k) K ∉ T.map (·.1)) (full : ∀ c, c < K → way t.mask (thash P w k) c ∈ T.map (·.1)) {Q : SetFound → Shared → Prop}
    (yes : ∀ r : Option Nat, (add = true → r = none) → (add = false → r.isSome = true) → k ∈ T.map (fun e => e.2.2) → Q (.there r) s) (no : k ∉ T.map (fun e => e.2.2) → Q (.free (way t.mask (thash P w k) K) false) s) :
    ∀ (f c : Nat) (stand : Option SetTable.Probe), stand.getD (t.probeStart (thash P w k)) = walkP P w t k c → c ≤ K → K - c < f →
      (∀ e ∈ T, e.2.2 = k → ∃ d, c ≤ d ∧ d < K ∧ way t.mask (thash P w k) d = e.1) →
      wpAny (model P w) A (setSearchFrom a (.ref x) (thash P w k) add f stand) Q E s := by
  intro f
  induction f with
  | zero => intro c stand _ _ hf; exact absurd hf (Nat.not_lt_zero _)
  | succ f ih =>
    intro c stand hst hc hf ahead
    obtain ⟨o, ho, hex, hd⟩ := R.ob
    have hash : ∀ {i : Nat} {e : En}, T[i]? = some e → (es[i]?.map (·.1)).getD 0 = thash P w e.2.2 := fun h => by rw [ents_at R.ents h] <;> rfl
    rw [setSearchFrom_succ]
    refine wpAny_bind (wpAny_setState_of ho hd R.fit ?_)
    dsimp only
    refine wp_if_neg R.tab.gives ?_
    try refine wpAny_bind (wpAny_pure ?_)
    rw [hst]
    have inP : ∀ y, y ∈ t.place.toList ↔ y ∈ T.map (·.1) := fun y => by rw [R.tab.pl]
    have met := go_spec t R.tab.ris' R.tab.dm (fun i => (es[i]?.map (·.1)).getD 0) (thash P w k) (10 * SetTable.turns t.mask) (K - c) (walkP P w t k c) (nth_clean _ c _ rfl) (by omega)
      (fun q hq => by rw [walkP_on]; exact (inP _).mpr (full (c + q) (by omega))) (by rw [walkP_on, show c + (K - c) = K by omega]; exact fun z => free ((inP _).mp z))
    simp only [walkP_on, walkP_j] at met
    rcases met with ⟨q, i, hq, hi, hh, before, hpr⟩ | ⟨before, hpr⟩
    · rw [show t.probe (fun i => (es[i]?.map (·.1)).getD 0) (thash P w k) (walkP P w t k c) = _ from hpr]
      dsimp only
      have live : t.slot (way t.mask (thash P w k) (c + q)) = .live i := slot_live R.tab.ris' hi
      obtain ⟨e, he, ee⟩ := R.tab.at_slot hi
      have me : e ∈ T := List.mem_of_getElem? he
      have rest : wpAny (model P w) A (searchRest a (.ref x) (thash P w k) add f es t (way t.mask (thash P w k) (c + q)) i (walkP P w t k (c + (q + 1)))) Q E s := by
        unfold searchRest
        rw [ents_at R.ents he]
        dsimp only
        refine wpAny_bind (wpAny_holding (wpAny_eqBool_tuple hu (R.tups e me) hx ?_))
        refine wpAny_bind (wpAny_setState_of ho hd R.fit ?_)
        dsimp only
        by_cases both : add = true ∧ e.2.2 = k
        · exact wp_if_pos (by simp [both.1, both.2]) (wpAny_pure (yes none (fun _ => rfl) (fun z => by rw [both.1] at z; cases z) (List.mem_map.mpr ⟨e, me, both.2⟩)))
        refine wp_if_neg (by simpa using fun z => by simpa using fun z2 => both ⟨z, z2⟩) ?_
        try refine wpAny_bind (wpAny_pure ?_)
        rw [sameMem]
        dsimp only
        simp only [if_true, live, ents_at R.ents he]
        refine wpAny_bind (wpAny_isSame_ref_self (wpAny_bind (wpAny_pure ?_)))
        simp only [if_true]
        by_cases same : e.2.2 = k
        · refine wp_if_pos (by simp [same]) (wpAny_pure (yes (some i) (fun z => absurd ⟨z, same⟩ both) (fun _ => rfl) (List.mem_map.mpr ⟨e, me, same⟩)))
        · refine wp_if_neg (by simp [same]) (ih (c + (q + 1)) _ rfl (by omega) (by omega) fun e0 m0 h0 => ?_)
          obtain ⟨d, a1, a2, a3⟩ := ahead e0 m0 h0
          obtain ⟨i0, g0⟩ := List.mem_iff_getElem?.mp m0
          have p0 := R.tab.slot_of g0
          rw [← a3] at p0
          refine ⟨d, ?_, a2, a3⟩
          by_cases z : d < c + q
          · refine (before (d - c) i0 (by omega) (by rw [show c + (d - c) = d by omega]; exact p0) ?_).elim
            exact (hash g0).trans (congrArg (thash P w) h0)
          · by_cases y : d = c + q
            · subst y
              have l0 := slot_live R.tab.ris' p0
              rw [live] at l0
              injection l0 with l0
              subst l0
              rw [he] at g0
              exact (same (by rw [Option.some.inj g0]; exact h0)).elim
            · omega
      by_cases hl : t.led = true
      · refine wp_if_neg (by simp [hl]) ?_
        try refine wpAny_bind (wpAny_pure ?_)
        exact rest
      · refine wp_if_pos (by simp [hl]) (wpAny_bind (seen_tup hx (fun y hy => ?_) ?_))
        · obtain ⟨u, hu', eu⟩ := List.mem_map.mp hy
          have m2 : u ∈ es.toList := by
            have z : u ∈ es ∧ u.1 = thash P w k := by simpa using hu'
            simpa using z.1
          rw [R.ents] at m2
          obtain ⟨e2, me2, ee2⟩ := List.mem_map.mp m2
          exact ⟨e2.2.2, e2.2.1, by rw [← eu, ← ee2], R.tups e2 me2⟩
        · refine wp_if_neg (by decide) ?_
          try refine wpAny_bind (wpAny_pure ?_)
          exact rest
    · rw [show t.probe (fun i => (es[i]?.map (·.1)).getD 0) (thash P w k) (walkP P w t k c) = _ from hpr]
      dsimp only
      have ek : c + (K - c) = K := by omega
      rw [ek]
      refine wpAny_pure (no fun hm => ?_)
      obtain ⟨e0, m0, h0⟩ := List.mem_map.mp hm
      obtain ⟨i0, g0⟩ := List.mem_iff_getElem?.mp m0
      obtain ⟨d, a1, a2, a3⟩ := ahead e0 m0 h0
      have p0 := R.tab.slot_of g0
      rw [← a3] at p0
      refine before (d - c) i0 (by omega) (by rw [show c + (d - c) = d by omega]; exact p0) ?_
      exact (hash g0).trans (congrArg (thash P w) h0)
/-- the search, from its start -/
theorem seekB (add : Bool) (R : SetB P w s.heap a T es ep t) {x : Addr} {k : List Int} (hx : IsT P w s.heap k x) (hu : A.units < cLine) {Q : SetFound → Shared → Prop}
    (yes : ∀ r : Option Nat, (add = true → r = none) → (add = false → r.isSome = true) → k ∈ T.map (fun e => e.2.2) → Q (.there r) s)
    (no : ∀ K, way t.mask (thash P w k) K ∉ T.map (·.1) → (∀ c, c < K → way t.mask (thash P w k) c ∈ T.map (·.1)) → k ∉ T.map (fun e => e.2.2) → Q (.free (way t.mask (thash P w k) K) false) s) : wpAny (model P w) A (setSearch a (.ref x) (thash P w k) add) Q E s := by
  have room := R.loose
  obtain ⟨K, small, free, full⟩ := R.tab.mask.first (thash P w k) (l := T.map (·.1)) (by rw [List.length_map]; omega)
  have big : 10 * SetTable.turns t.mask ≤ 20620 := by
    unfold SetTable.turns
    have := R.tab.mask.most
    omega
  unfold setSearch
  refine seekB_from add R hx hu small free full yes (no K free full) 100000 0 none rfl (Nat.zero_le _) (by omega) fun e me he => ?_
  obtain ⟨d, e1, e2⟩ := R.tab.ways e me
  rw [he] at e1 e2
  refine ⟨d, Nat.zero_le _, ?_, e1⟩
  by_cases c : d < K
  · exact c
  · by_cases c2 : d = K
    · subst c2
      exact absurd (List.mem_map.mpr ⟨e, me, e1.symm⟩) free
    · exact absurd (e2 K (by omega)) free
/-- laid anew, larger -/
theorem relay_big {o : Obj} (ho : s.heap.get? a = some o) (hex : o.ExactSet) (hd : o.data = .set es ep t) (he : es.toList = esOf P w T) (Z : Laid P w t T) (hfl : T.length ≤ t.mask) (keys : (T.map fun e => e.2.2).Nodup) (tups : ∀ e ∈ T, IsT P w s.heap e.2.2 e.2.1) (pl : t.plain = true)
    (ld : w.params.followText "set-order" = true ∨ t.led = true) (few : T.length < 1000) {wanted M : Nat} (hw : SetTable.sizeAbove wanted - 1 = M) (hM : Mk2 M) (hn : T.length * 5 < M * 3) {Q : Unit → Shared → Prop}
    (go : ∀ h' T' es' ep' t', Heap.SameBut a s.heap h' → SetB P w h' a T' es' ep' t' → (T'.map (·.2)).Perm (T.map (·.2)) → Q () { s with heap := h' }) : wpAny (model P w) A (setRelay a wanted) Q E s := by
  have most := hM.most
  obtain ⟨t', order, T', e1, e2, e3, Z', em, el, epl⟩ := relaid_big (t := t) he hw hM (by omega)
  have len : T'.length = T.length := by
    have z := e3.length_eq
    rw [List.length_map, List.length_map] at z
    exact z
  have s2 : (order.filterMap (es[·]?)).size = es.size := by rw [ents_size e2, ents_size he, len]
  rw [setRelay_eq]
  refine wpAny_bind (wpAny_setState_of ho hd (Z.fits he hfl) ?_)
  dsimp only
  refine wp_if_neg (by rw [sizeLine_eq]; omega) ?_
  try refine wpAny_bind (wpAny_pure ?_)
  rw [e1]
  dsimp only
  refine wpAny_bind (wp_if_neg (by rw [s2]; simp) ?_)
  try refine wpAny_bind (wpAny_pure ?_)
  refine wpAny_pure ?_
  dsimp only
  refine wpAny_storeSet_of ho hd ?_ (by rw [s2, ents_size he, sizeLine_eq]; omega)
  have sb : Heap.SameBut a s.heap (s.heap.update a (Obj.putSet (order.filterMap (es[·]?)) t')) := Heap.SameBut.update ..
  refine go _ T' _ (ep + 1) t' sb ⟨⟨_, store_at ho hd, ⟨hex.1, hex.2.1, hex.2.2⟩, rfl⟩, e2, Z', ?_, fun e me => ?_, epl.trans pl, by rw [el]; exact ld, by rw [len, em]; exact hn, by rw [len]; exact few⟩ e3
  · have z := (e3.map (fun p : Addr × List Int => p.2)).nodup_iff
    rw [List.map_map, List.map_map] at z
    exact z.mpr keys
  · have m2 : e.2 ∈ T.map (·.2) := e3.mem_iff.mp (List.mem_map.mpr ⟨e, me, rfl⟩)
    obtain ⟨e0, m0, h0⟩ := List.mem_map.mp m2
    have y := tups e0 m0
    rw [h0] at y
    exact isT_same y ho hd sb
end
end KW
set_option Elab.async false
set_option linter.all false
set_option maxRecDepth 100000
set_option maxHeartbeats 3200000
namespace KW
open PySem PySem.Spec PyProof.Rows L2 TS
section
variable {P : Program} {w : World} {A : Around} {E : Value → Shared → Prop} {s : Shared} {a : Addr} {T : List En} {es : Array (Int × Value)} {ep : Nat} {t : SetTable}
theorem add_big (R : SetB P w s.heap a T es ep t) {x : Addr} {k : List Int} (hx : IsT P w s.heap k x) (hu : A.units < cLine) (few : T.length + 1 < 1000) {Q : Bool → Shared → Prop}
    (go : ∀ b h' T' es' ep' t', Heap.SameBut a s.heap h' → SetB P w h' a T' es' ep' t' → (k ∈ T.map (fun e => e.2.2) → T' = T) → (k ∉ T.map (fun e => e.2.2) → (T'.map (·.2)).Perm ((x, k) :: T.map (·.2))) → Q b { s with heap := h' }) :
    wpAny (model P w) A (setAddHashed a (.ref x) (thash P w k)) Q E s := by
  obtain ⟨o, ho, hex, hd⟩ := id R.ob
  have loose := R.loose
  unfold setAddHashed
  refine wpAny_holding ?_
  rw [show (100000 : Nat) = 99999 + 1 from rfl, setAddHashedIn_succ]
  refine wpAny_bind (wpAny_setState_of ho hd R.fit ?_)
  dsimp only
  refine wp_if_neg (by simp [byScan, Value.scannable]) ?_
  try refine wpAny_bind (wpAny_pure ?_)
  refine wpAny_bind (seekB true R hx hu (fun r h1 _ hm => ?_) fun K free taken hm => ?_)
  · dsimp only
    exact wpAny_pure (go false s.heap T es ep t (Heap.SameBut.refl a s.heap) R (fun _ => rfl) fun z => absurd hm z)
  dsimp only
  refine wpAny_bind (wpAny_setState_of ho hd R.fit ?_)
  dsimp only
  have Z1 := R.tab.put (x := x) free taken
  have em : (t.put (way t.mask (thash P w k) K)).1.mask = t.mask := rfl
  have el : (t.put (way t.mask (thash P w k) K)).1.led = t.led := rfl
  have epl : (t.put (way t.mask (thash P w k) K)).1.plain = t.plain := rfl
  have e2 : (t.put (way t.mask (thash P w k) K)).2 = SetTable.below t.place (way t.mask (thash P w k) K) := rfl
  generalize hpt : t.put (way t.mask (thash P w k) K) = pt at Z1 em el epl e2 ⊢
  generalize hj : way t.mask (thash P w k) K = j at Z1 e2
  obtain ⟨t1, p⟩ := pt
  dsimp only at Z1 em el epl e2 ⊢
  subst e2
  generalize SetTable.below t.place j = p at Z1 ⊢
  have pm := insE_perm T p (j, x, k)
  have he1 : (SetTable.insertAt es p (thash P w k, Value.ref x)).toList = esOf P w (insE T p (j, x, k)) := by
    rw [SetTable.toList_insertAt, R.ents]
    unfold esOf
    rw [insE_map]
  have len : (insE T p (j, x, k)).length = T.length + 1 := pm.length_eq
  have pk : ((insE T p (j, x, k)).map (·.2)).Perm ((x, k) :: T.map (·.2)) := pm.map (·.2)
  have keys1 : ((insE T p (j, x, k)).map fun e => e.2.2).Nodup := (pm.map (fun e : En => e.2.2)).nodup_iff.mpr (List.nodup_cons.mpr ⟨hm, R.keys⟩)
  generalize insE T p (j, x, k) = T1 at Z1 pm he1 len pk keys1
  have sz := ents_size he1
  generalize SetTable.insertAt es p (thash P w k, Value.ref x) = es1 at he1 sz ⊢
  have pl1 : t1.plain = true := epl.trans R.pure_
  first
    | (refine wpAny_bind ?_; refine wp_if_pos pl1 ?_; refine hashBy_tup hx ?_)
    | refine wp_if_pos pl1 (wpAny_bind (hashBy_tup hx ?_))
  simp only [if_true]
  refine wpAny_bind (wpAny_storeSet_of ho hd ?_ (by rw [sz, len, sizeLine_eq]; omega))
  have sb : Heap.SameBut a s.heap (s.heap.update a (Obj.putSet es1 t1)) := Heap.SameBut.update ..
  have ho1 := store_at (es' := es1) (t' := t1) ho hd
  generalize s.heap.update a (Obj.putSet es1 t1) = h1 at sb ho1 ⊢
  have tups1 : ∀ e ∈ T1, IsT P w h1 e.2.2 e.2.1 := fun e me => by
    rcases List.mem_cons.mp (pm.mem_iff.mp me) with z | z
    · rw [z]; exact isT_same hx ho hd sb
    · exact isT_same (R.tups e z) ho hd sb
  have ld1 : w.params.followText "set-order" = true ∨ t1.led = true := by rw [el]; exact R.led
  have hfill : t1.fill = T.length + 1 := Z1.fill.trans len
  by_cases full : t1.tooFull = true
  · have hf : (T.length + 1) * 5 ≥ t.mask * 3 := by
      unfold SetTable.tooFull at full
      rw [decide_eq_true_eq, hfill, em] at full
      exact full
    have grow : ∀ M, SetTable.sizeAbove (SetTable.grown (es.size + 1)) - 1 = M → Mk2 M → (T.length + 1) * 5 < M * 3 → T.length + 1 ≤ t.mask → wpAny (model P w) A (setRelay a (SetTable.grown (es.size + 1))) (fun _ s' => wpAny (model P w) A (pure true) Q E s') E { s with heap := h1 } := fun M g1 g2 g3 g4 =>
      relay_big (s := { s with heap := h1 }) ho1 ⟨hex.1, hex.2.1, hex.2.2⟩ rfl he1 Z1 (by rw [len, em]; exact g4) keys1 tups1 pl1 ld1 (by rw [len]; exact few) g1 g2 (by rw [len]; exact g3) fun h2 T2 es2 ep2 t2 sb2 R2 pm2 =>
        wpAny_pure (go true h2 T2 es2 ep2 t2 (sb.trans sb2) R2 (fun z => absurd z hm) fun _ => pm2.trans pk)
    have esz := ents_size R.ents
    have run : wpAny (model P w) A (setRelay a (SetTable.grown (es.size + 1))) (fun _ s' => wpAny (model P w) A (pure true) Q E s') E { s with heap := h1 } := by
      rcases R.tab.mask.is with e | e | e | e | e
      · have l : T.length = 4 := by omega
        exact grow 31 (by rw [esz, l, size_20]) mk31 (by omega) (by omega)
      · have l : T.length = 18 := by omega
        exact grow 127 (by rw [esz, l, size_76]) mk127 (by omega) (by omega)
      · have l : T.length = 76 := by omega
        exact grow 511 (by rw [esz, l, size_308]) mk511 (by omega) (by omega)
      · have l : T.length = 306 := by omega
        exact grow 2047 (by rw [esz, l, size_1228]) mk2047 (by omega) (by omega)
      · omega
    first
      | (refine wpAny_bind ?_; refine wp_if_pos (by simp [full]) ?_; exact run)
      | (refine wp_if_pos (by simp [full]) ?_; exact wpAny_bind run)
  · first
      | refine wp_if_neg (by simp [full]) ?_
      | (refine wpAny_bind ?_; refine wp_if_neg (by simp [full]) ?_; refine wpAny_pure ?_)
    refine wpAny_pure (go true h1 T1 es1 (ep + 1) t1 sb ⟨⟨_, ho1, ⟨hex.1, hex.2.1, hex.2.2⟩, rfl⟩, he1, Z1, keys1, tups1, pl1, ld1, ?_, by rw [len]; exact few⟩ (fun z => absurd z hm) fun _ => pk)
    unfold SetTable.tooFull at full
    rw [decide_eq_true_eq, hfill] at full
    rw [len]
    omega
theorem SetB.moved {h h' : Heap} (R : SetB P w h a T es ep t) (ha : ∀ o, h.get? a = some o → h'.get? a = some o) (ht : ∀ e ∈ T, IsT P w h' e.2.2 e.2.1) : SetB P w h' a T es ep t := by
  obtain ⟨o, ho, r⟩ := R.ob
  exact ⟨⟨o, ha o ho, r⟩, R.ents, R.tab, R.keys, ht, R.pure_, R.led, R.loose, R.most⟩
theorem setB0 {h : Heap} {a : Addr} (ho : h.get? a = some { cls := .type "set", dict := none, data := .set #[] 0 (.fresh 0 0 (!w.params.followText "set-order")) }) : SetB P w h a [] #[] 0 (.fresh 0 0 (!w.params.followText "set-order")) where
  ob := ⟨_, ho, ⟨rfl, rfl, rfl⟩, rfl⟩
  ents := rfl
  tab := ⟨rfl, List.Pairwise.nil, rfl, mk7, (fun e z => nomatch z), (fun e z => nomatch z)⟩
  keys := List.nodup_nil
  tups := fun e z => nomatch z
  pure_ := rfl
  led := by cases e : w.params.followText "set-order" <;> simp [SetTable.fresh]
  loose := by show 0 * 5 < 7 * 3; decide
  most := by decide
end
end KW
set_option Elab.async false
set_option linter.all false
set_option maxRecDepth 100000
set_option maxHeartbeats 3200000
namespace KW
open PySem PySem.Spec PyProof.Rows L2 TS
/-- what a set has of the first i tuples -/
structure HasOf (ks : List (Addr × List Int)) (i : Nat) (T : List En) : Prop where
  sub : ∀ e ∈ T, e.2 ∈ ks.take i
  all : ∀ p ∈ ks.take i, p.2 ∈ T.map (fun e => e.2.2)
  len : T.length ≤ i
theorem hasOf0 (ks : List (Addr × List Int)) : HasOf ks 0 [] := ⟨(fun e z => nomatch z), (fun p z => by simp at z), Nat.le_refl 0⟩
theorem HasOf.next {ks : List (Addr × List Int)} {i : Nat} {T T' : List En} {p : Addr × List Int} (g : HasOf ks i T) (hp : ks[i]? = some p) (c1 : p.2 ∈ T.map (fun e => e.2.2) → T' = T) (c2 : p.2 ∉ T.map (fun e => e.2.2) → (T'.map (·.2)).Perm (p :: T.map (·.2))) : HasOf ks (i + 1) T' := by
  have tk : ks.take (i + 1) = ks.take i ++ [p] := by rw [List.take_add_one, hp]; rfl
  by_cases c : p.2 ∈ T.map (fun e => e.2.2)
  · rw [c1 c]
    refine ⟨fun e me => by rw [tk]; exact List.mem_append_left _ (g.sub e me), fun q mq => ?_, Nat.le_succ_of_le g.len⟩
    rw [tk] at mq
    rcases List.mem_append.mp mq with z | z
    · exact g.all q z
    · rw [List.mem_singleton.mp z]; exact c
  · have pm := c2 c
    refine ⟨fun e me => ?_, fun q mq => ?_, ?_⟩
    · rw [tk]
      rcases List.mem_cons.mp (pm.mem_iff.mp (List.mem_map.mpr ⟨e, me, rfl⟩)) with z | z
      · rw [z]; exact List.mem_append_right _ (List.mem_singleton.mpr rfl)
      · obtain ⟨e0, m0, h0⟩ := List.mem_map.mp z
        rw [← h0]
        exact List.mem_append_left _ (g.sub e0 m0)
    · have pk := (pm.map (fun y : Addr × List Int => y.2))
      rw [List.map_cons, List.map_map, List.map_map] at pk
      rw [tk] at mq
      refine pk.mem_iff.mpr ?_
      rcases List.mem_append.mp mq with z | z
      · exact List.mem_cons_of_mem _ (g.all q z)
      · rw [List.mem_singleton.mp z]; exact List.mem_cons_self
    · have z := pm.length_eq
      rw [List.length_cons, List.length_map, List.length_map] at z
      have := g.len
      omega
section
variable {P : Program} {w : World} {A : Around} {E : Value → Shared → Prop} {s : Shared}
theorem fill_loop {I : Addr} {fp wr : List Addr} {G : Array GenState → Array GenState → Prop} {n : Nat} {Pv : Nat → Value → Prop} {St : Nat → Shared → Prop} {R : Result → Shared → Prop}
    (W : WalksS P w A.in1 I fp wr G n Pv St) {S : Addr} (off : S ∉ fp) (ks : List (Addr × List Int)) (size : n = ks.length) (few : ks.length < 1000) (val : ∀ i v, Pv i v → ∃ p, ks[i]? = some p ∧ v = .ref p.1)
    {h0 : Heap} (kt : ∀ p ∈ ks, IsT P w h0 p.2 p.1) (S0 : h0.get? S = none) (w0 : ∀ b ∈ wr, h0.get? b = none) (hu : A.in1.units < cLine)
    (fin : ∀ s' T es ep t, s'.gens = s.gens → s'.drawn = s.drawn → s'.os = s.os → SetB P w s'.heap S T es ep t → HasOf ks n T → (∀ b o, h0.get? b = some o → s'.heap.get? b = some o) → R (.ok (.ret .none)) s') (hG : ∀ x y, G x y → y = x) :
    ∀ (k i : Nat) (st : Shared), n - i = k → i ≤ n → St i st → st.gens = s.gens → st.drawn = s.drawn → st.os = s.os → (∀ b o, h0.get? b = some o → st.heap.get? b = some o) → (∃ T es ep t, SetB P w st.heap S T es ep t ∧ HasOf ks i T) →
      codeAny (model P w) A (.builtin "set.update.loop" ⟨[.ref S, .ref I], []⟩) R st := by
  have offw : S ∉ wr := fun z => off (W.sub _ z)
  intro k
  induction k with
  | zero =>
    rintro i st ek hi hst eg ed eo kp ⟨T, es, ep, t, B, g⟩
    obtain rfl : i = n := by omega
    refine codeAny_builtin F.entry_set_update_loop ?_
    rw [Around.under_plainId F.plain_set_update_loop _]
    show wpAny _ A.in1 (pyNext (.ref I) >>= _) _ _ st
    refine wpAny_bind (W.done st _ _ hst fun s2 hm => ?_)
    have kp2 : ∀ b o, h0.get? b = some o → s2.heap.get? b = some o := fun b o e => hm.heap b o (fun z => by rw [w0 b z] at e; cases e) (kp b o e)
    exact (show wpAny _ A.in1 (ret Value.none) _ _ s2 from wpAny_pure (fin s2 T es ep t ((hG _ _ hm.gens).trans eg) (hm.drawn.trans ed) (hm.os.trans eo) (B.moved (fun o e => hm.heap S o offw e) fun e me => isT_keep (kt e.2 (List.mem_of_mem_take (g.sub e me))) kp2) g kp2))
  | succ k ih =>
    rintro i st ek hi hst eg ed eo kp ⟨T, es, ep, t, B, g⟩
    have lt : i < n := by omega
    refine codeAny_builtin F.entry_set_update_loop ?_
    rw [Around.under_plainId F.plain_set_update_loop _]
    show wpAny _ A.in1 (pyNext (.ref I) >>= _) _ _ st
    refine wpAny_bind (W.item i st _ _ lt hst fun v s2 hv hst2 hm => ?_)
    obtain ⟨p, hp, rfl⟩ := val i v hv
    have kp2 : ∀ b o, h0.get? b = some o → s2.heap.get? b = some o := fun b o e => hm.heap b o (fun z => by rw [w0 b z] at e; cases e) (kp b o e)
    have B2 : SetB P w s2.heap S T es ep t := B.moved (fun o e => hm.heap S o offw e) fun e me => isT_keep (kt e.2 (List.mem_of_mem_take (g.sub e me))) kp2
    have hx : IsT P w s2.heap p.2 p.1 := isT_keep (kt p (List.mem_of_getElem? hp)) kp2
    refine (show wpAny _ A.in1 (holding [Value.ref p.1] (setAdd S (.ref p.1)) >>= _) _ _ s2 from wpAny_bind (wpAny_holding ?_))
    unfold setAdd
    refine wpAny_holding (wpAny_bind (wpAny_pyHash_tuple hu hx ?_))
    refine add_big (s := { s2 with toks := s2.toks + (p.2.length + 1) }) B2 hx hu (by have := g.len; omega) fun b h3 T3 es3 ep3 t3 sb B3 c1 c2 => ?_
    have kp3 : ∀ b o, h0.get? b = some o → h3.get? b = some o := fun b o e => (sb.2 b (fun z => by rw [z, S0] at e; cases e)).trans (kp2 b o e)
    exact wpAny_pure ⟨plainId_quiet F.plain_set_update_loop _, ih (i + 1) _ (by omega) lt (W.frame _ s2 _ _ hst2 (Nat.le_add_right _ _) fun b mb o e => by rw [sb.2 b (fun z : b = S => off (z ▸ mb))]; exact e) ((hG _ _ hm.gens).trans eg) (hm.drawn.trans ed) (hm.os.trans eo) kp3 ⟨T3, es3, ep3, t3, B3, g.next hp c1 c2⟩⟩
theorem set_of_tuples {l : Addr} {its : Array Value} (ks : List (Addr × List Int)) {Q : Value → Shared → Prop} (quiet : A.handled = none) (isl : s.heap.IsList l its) (ia : its.toList = ks.map fun p => Value.ref p.1) (kt : ∀ p ∈ ks, IsT P w s.heap p.2 p.1) (few : ks.length < 1000) (hu : A.units + 3 < cLine)
    (go : ∀ (h2 : Heap) (tk : Nat) T es ep t, SetB P w h2 s.heap.objs.size T es ep t → HasOf ks ks.length T → (∀ b o, s.heap.get? b = some o → h2.get? b = some o) → Q (.ref s.heap.objs.size) { s with heap := h2, toks := tk }) :
    wpAny (model P w) A (call (.type "set") [.ref l]) Q E s := by
  have size : its.size = ks.length := by
    have z := congrArg List.length ia
    rwa [Array.length_toList, List.length_map] at z
  obtain ⟨c0, tl, mro⟩ := F.called_set.mro
  have f1 := F.called_set.made
  have f2 := F.called_set.sub
  have f3 := F.called_set.notType
  have f4 := F.called_set.canCreate
  have f5 := F.typeCall_set_1 (.ref l)
  refine wpAny_call (codeAny_of_tree (show wpAny _ _ (callAny (.type "set") _) _ _ _ from wpAny_pure ⟨Code.quiet_builtin _ (by decide +kernel), codeAny_builtin F.entry_type_call ?_⟩))
  rw [Around.under_plain (weight_type_call_type "set" [.ref l] []) rfl]
  repeat any_goals (first | assumption | wp_step)
  refine codeAny_mono (code_set_led1 (.ref l) (E := E) (Q₁ := fun obj s1 => obj = .ref s.heap.objs.size ∧ s1 = { s with heap := s.heap.push (bare w) }) ⟨rfl, rfl⟩) fun r s1 hr => ?_
  cases r with
  | error e => exact hr
  | ok fl =>
  cases fl with
  | ret obj =>
    obtain ⟨rfl, rfl⟩ := hr
    have at0 : (s.heap.push (bare w)).get? s.heap.objs.size = some (bare w) := Heap.get?_push_size _ rfl
    have ty0 : Shared.TypeIs { s with heap := s.heap.push (bare w) } (.ref s.heap.objs.size) "set" := ⟨_, at0, rfl⟩
    have f6 := F.called_set.init.lookup
    have f7 := F.called_set.init.bind (.ref s.heap.objs.size)
    repeat any_goals (first | assumption | wp_step)
    refine codeAny_mono (codeAny_call_builtin (R := wants (fun r s2 => r = .none ∧ ∃ h2 tk T es ep t, s2 = { s with heap := h2, toks := tk } ∧ SetB P w h2 s.heap.objs.size T es ep t ∧ HasOf ks ks.length T ∧ ∀ b o, s.heap.get? b = some o → h2.get? b = some o) E) F.called_set.init.plain F.entry_set_init (check_set_init_1 ty0 ?_)) fun r2 s2 hr2 => ?_
    · obtain ⟨⟨ocls, odict, odata, oslots⟩, hol, hcl, nl, hdl⟩ := isl
      dsimp only at hcl hdl
      subst hcl hdl
      have at1 : (s.heap.push (bare w)).get? l = some ⟨.type "list", odict, .seq its nl, oslots⟩ := Heap.get?_push_of_some _ hol
      have g1 := F.sub_list_set
      have g2 := F.sub_list_frozenset
      have g3 : (Value.type "list" == Value.type "dict") = false := by decide
      have isl1 : (s.heap.push (bare w)).IsList l its := ⟨_, at1, rfl, nl, rfl⟩
      unfold Builtin.«set.__init__» noKeywords Builtin.Frozenset.updateFrom
      generalize hPI : pyIter = PI
      wp_walk
      subst hPI
      refine wpAny_pyIter_list isl1 (wpAny_bind (wpAny_runValue ?_))
      have ls : l < s.heap.objs.size := Heap.lt_size hol
      have q3 : A.in1.in1.in1.handled = none := by simp [quiet]
      have ne1 : l ≠ (s.heap.push (bare w)).objs.size := by rw [Heap.size_push]; exact Nat.ne_of_lt (Nat.lt_succ_of_lt ls)
      have nin : s.heap.objs.size ∉ [(s.heap.push (bare w)).objs.size, l] := by
        rw [Heap.size_push]
        intro z
        simp only [List.mem_cons, List.not_mem_nil, or_false] at z
        exact z.elim (Nat.ne_of_lt (Nat.lt_succ_self _)) (Nat.ne_of_gt ls)
      have val : ∀ (i : Nat) (v : Value), its[i]? = some v → ∃ p, ks[i]? = some p ∧ v = .ref p.1 := fun i v hv => by
        have z : its.toList[i]? = some v := by rw [Array.getElem?_toList]; exact hv
        rw [ia, List.getElem?_map] at z
        obtain ⟨p, e1, e2⟩ := Option.map_eq_some_iff.mp z
        exact ⟨p, e1, e2.symm⟩
      have out : ∀ b, s.heap.objs.size ≤ b → s.heap.get? b = none := fun b hb => by
        cases e : s.heap.get? b with
        | none => rfl
        | some o => exact absurd (Heap.lt_size e) (Nat.not_lt.mpr hb)
      refine fill_loop (s := s) ((Walks.list q3 _ l ne1 its).toS) nin ks size few val kt (out _ (Nat.le_refl _)) (fun b hb => out b (by rw [List.mem_singleton.mp hb, Heap.size_push]; exact Nat.le_succ _)) hu ?_ (fun x y h => h) (its.size - 0) 0 _ (by omega) (Nat.zero_le _) ⟨⟨_, Heap.get?_push_size _ rfl, rfl, rfl⟩, isl1.push _⟩ rfl rfl rfl (fun b o e => Heap.get?_push_of_some _ (Heap.get?_push_of_some _ e)) ⟨[], #[], 0, _, setB0 (Heap.get?_push_of_some _ at0), hasOf0 ks⟩
      rintro ⟨h2, g2', d2, tk2, os2⟩ T es ep t e1 e2 e3 B g kp
      dsimp only at e1 e2 e3
      subst e1 e2 e3
      show wpAny _ _ _ _ _ _
      refine wpAny_pure ?_
      show wpAny _ _ (ret Value.none) _ _ _
      rw [size] at g
      exact wpAny_pure ⟨rfl, h2, tk2, T, es, ep, t, rfl, B, g, kp⟩
    · cases r2 with
      | error e => exact hr2
      | ok fl2 =>
      cases fl2 with
      | ret r =>
        obtain ⟨rfl, h2, tk, T, es, ep, t, rfl, B, g, kp⟩ := hr2
        repeat any_goals (first | assumption | wp_step)
        exact go _ _ _ _ _ _ B g kp
      | _ => exact hr2.elim
  | _ => exact hr.elim
end
end KW
set_option Elab.async false
set_option linter.all false
set_option maxRecDepth 100000
set_option maxHeartbeats 3200000
namespace KW
open PySem PySem.Spec PyProof.Rows L2 TS
/-- the set at a, of these tuples at their places -/
def SetB0 (P : Program) (w : World) (h : Heap) (a : Addr) (L : List (Addr × List Int)) : Prop := ∃ (T : List En) (es : Array (Int × Value)) (ep : Nat) (t : SetTable), L = T.map (·.2) ∧ (∃ o, h.get? a = some o ∧ o.ExactSet ∧ o.data = .set es ep t) ∧ es.toList = esOf P w T ∧ Laid P w t T ∧ (T.map fun e => e.2.2).Nodup ∧ t.plain = true ∧
  (w.params.followText "set-order" = true ∨ t.led = true) ∧ T.length * 5 < t.mask * 3 ∧ T.length < 1000
def SetBO (P : Program) (w : World) (a : Addr) (L : List (Addr × List Int)) : HO := .ext fun h => SetB0 P w h a L
section
variable {P : Program} {w : World}
theorem SetB.small {h : Heap} {a : Addr} {T : List En} {es : Array (Int × Value)} {ep : Nat} {t : SetTable} (R : SetB P w h a T es ep t) : SetB0 P w h a (T.map (·.2)) := ⟨T, es, ep, t, rfl, R.ob, R.ents, R.tab, R.keys, R.pure_, R.led, R.loose, R.most⟩
theorem SetB0.whole {h : Heap} {a : Addr} {L : List (Addr × List Int)} (R : SetB0 P w h a L) (ht : ∀ p ∈ L, IsT P w h p.2 p.1) : ∃ T es ep t, L = T.map (·.2) ∧ SetB P w h a T es ep t := by
  obtain ⟨T, es, ep, t, rfl, h1, h2, h3, h4, h5, h6, h7, h8⟩ := R
  exact ⟨T, es, ep, t, rfl, h1, h2, h3, h4, fun e me => ht e.2 (List.mem_map.mpr ⟨e, me, rfl⟩), h5, h6, h7, h8⟩
theorem setBO_new {H : Hp} {h : Heap} {a : Addr} {L : List (Addr × List Int)} (R : SetB0 P w h a L) : ObjOk P w H h a (SetBO P w a L) := by
  have R' := R
  obtain ⟨T, es, ep, t, e0, ⟨o, ho, r⟩, q⟩ := R'
  refine ⟨R, ⟨o, ho⟩, fun h1 h2 p k => ?_⟩
  obtain ⟨T', es', ep', t', e0', ⟨o', ho', r'⟩, q'⟩ := p
  exact ⟨T', es', ep', t', e0', ⟨o', k o' ho', r'⟩, q'⟩
end
end KW
set_option Elab.async false
set_option linter.all false
set_option maxRecDepth 100000
set_option maxHeartbeats 1000000
namespace KD
open PySem PySem.Spec PyProof.Rows L2
def twD (r : List Int) : D := .tup (r.map D.int)
end KD
set_option Elab.async false
set_option linter.all false
set_option maxRecDepth 100000
set_option maxHeartbeats 1000000
namespace KD
open PySem PySem.Spec PyProof.Rows L2
end KD
set_option Elab.async false
set_option linter.all false
set_option maxRecDepth 100000
set_option maxHeartbeats 1000000
namespace KD
open PySem PySem.Spec PyProof.Rows L2
end KD
set_option Elab.async false
set_option linter.all false
set_option maxRecDepth 100000
set_option maxHeartbeats 1000000
namespace KD
open PySem PySem.Spec PyProof.Rows L2
end KD
set_option Elab.async false
set_option linter.all false
set_option maxRecDepth 100000
set_option maxHeartbeats 1000000
namespace KD
open PySem PySem.Spec PyProof.Rows L2
end KD
set_option Elab.async false
set_option linter.all false
set_option maxRecDepth 100000
set_option maxHeartbeats 1000000
namespace KD
open PySem PySem.Spec PyProof.Rows L2
section
variable {Ω : Obs} {A : Am} {E : XK} {K : PySem.W.Frag}
def lkD : E1 → D
  | .ownK xs => .fkb xs
  | .ownT xs => .ftb xs
  | .ownD xs => .ndb xs
  | _ => .non
def isDct : E1 → Bool
  | .ownK _ => true
  | .ownT _ => true
  | .ownD _ => true
  | _ => false
theorem isDct.own {e : E1} (h : isDct e = true) : isOwn e = true := by cases e <;> first | rfl | cases h
theorem OwnR.lk {G : Hp} {e : E1} {u : HO} {a : Addr} {od : Obj} (w : isDct e = true) (h : OwnR Ω G a e u) (g : G a = some (.frz od u)) : Rep Ω G (.ref a) (lkD e) := by
  cases e with
  | ownK xs => cases u <;> first | exact h.elim | exact .fkb g h
  | ownT xs => cases u <;> first | exact h.elim | exact .ftb g h
  | ownD xs =>
    cases u with
    | ext φ =>
      obtain ⟨vs, ⟨e1, _⟩, r⟩ := h
      subst e1
      exact .ndb g r
    | _ => exact h.elim
  | _ => cases w
theorem OwnR.mut' {G : Hp} {a : Addr} {e : E1} {u : HO} (h : OwnR Ω G a e u) : Mut (some u) := by
  have m := h.mut
  cases u <;> first | exact trivial | exact m.elim | exact fun _ => m.elim
/-- a slot's thing is locked: what it is then -/
theorem Ok.lockW {G H : Hp} {σ : L2.St} {env : Env} (k : Ok Ω A G σ env H) {i : Nat} {a : Addr} {u : HO} {e : E1} {x : D} (he : get env i = e) (wo : isOwn e = true) (s : σ[i]? = some (some (.ref a))) (h : H a = some u) (mo : MutO u) (g : G a = none) (n : A.nw a) (od : Obj) (r : Rep Ω (upd G a (.frz od u)) (.ref a) x) :
    Ok Ω A (upd G a (.frz od u)) σ (put env i (.d x)) (upd H a (.frz od u)) := by
  have sg : Same G (upd G a (.frz od u)) := sameNew g
  have lt : i < env.length := by
    have z := (List.getElem?_eq_some_iff.mp s).1
    rw [k.len] at z
    exact z
  have sli : sl σ i = some (.ref a) := by
    unfold sl
    rw [s]
    rfl
  have wi : isOwn (get env i) = true := by rw [he]; exact wo
  have inv := A.put (o' := .frz od u) k.fr.inv n h mo
  have other : ∀ j, j ≠ i → isOwn (get env j) = true → SlotO Ω A G H (sl σ j) (get env j) → SlotO Ω A (upd G a (.frz od u)) (upd H a (.frz od u)) (sl σ j) (get env j) := fun j ej wj z => by
    obtain ⟨b, o', e1, h1, r1, g1, n1⟩ := z
    have nb : b ≠ a := fun eb => by
      subst eb
      exact k.dist j i wj wi ej (by rw [e1, sli])
    exact ⟨b, o', e1, by rw [upd_ne nb]; exact h1, r1.mono sg, by rw [upd_ne nb]; exact g1, n1⟩
  have no : ∀ j, isOwn (get (put env i (.d x)) j) = true → j ≠ i := fun j hj ej => by
    subst ej
    rw [get_put _ _ _ lt] at hj
    cases hj
  refine ⟨⟨inv, fun b o q => ?_, fun b o q => ?_⟩, by rw [put_len, k.len], fun j => ?_, fun j l h1 h2 ne => ?_, fun j h' ls xss ej => ?_⟩
  · by_cases eb : b = a
    · subst eb
      rw [upd_same] at q ⊢
      exact q
    · rw [upd_ne eb] at q ⊢
      exact k.fr.sub _ _ q
  · by_cases eb : b = a
    · subst eb
      rw [upd_same] at q
      cases q
      exact A.fx inv upd_same trivial
    · rw [upd_ne eb] at q
      exact k.fr.gd _ _ q
  · by_cases ej : j = i
    · subst ej
      rw [get_put _ _ _ lt]
      exact ⟨.ref a, sli, r⟩
    · rw [get_put_ne _ _ _ _ ej]
      exact (k.slot j).to sg (other j ej)
  · have nj := no j h1
    have nl := no l h2
    rw [get_put_ne _ _ _ _ nj] at h1
    rw [get_put_ne _ _ _ _ nl] at h2
    exact k.dist j l h1 h2 ne
  · obtain ⟨ne, e1⟩ := cl_put (e := .d x) (fun _ _ _ z => nomatch z) ej
    have z := k.inn j h' ls xss e1
    refine ⟨z.there.to sg fun l hl us h1 _ g1 => ?_, z.nodup, fun l hl b hb => ?_, fun l nl b hb m => z.others l nl b hb (inE_put (e := .d x) rfl m).2⟩
    · have nl : l ≠ a := fun eb => z.heads i wi l hl (by rw [sli, eb])
      exact ⟨by rw [upd_ne nl]; exact h1, by rw [upd_ne nl]; exact g1⟩
    · have nl := no l hl
      rw [get_put_ne _ _ _ _ nl] at hl
      exact z.heads l hl b hb
theorem Ok.lockV {G H : Hp} {σ : L2.St} {env : Env} (k : Ok Ω A G σ env H) {i : Nat} {a : Addr} {u : HO} {e : E1} {x : D} (he : get env i = e) (wo : isOwn e = true) (s : σ[i]? = some (some (.ref a))) (h : H a = some u) (mo : MutO u) (g : G a = none) (n : A.nw a) (od : Obj) (r : Rep Ω (upd G a (.frz od u)) (.ref a) x) :
    ∃ G', Same G G' ∧ Ok Ω A G' σ (put env i (.d x)) (upd H a (.frz od u)) := ⟨_, sameNew g, k.lockW he wo s h mo g n od r⟩
/-- a dict of a slot is locked for good -/
theorem Ok.lock {G H : Hp} {σ : L2.St} {env : Env} (k : Ok Ω A G σ env H) {i : Nat} {e : E1} (he : get env i = e) (w : isDct e = true) : ∃ a u, σ[i]? = some (some (.ref a)) ∧ H a = some u ∧ Mut (some u) ∧ ∀ od, ∃ G', Same G G' ∧ Ok Ω A G' σ (put env i (.d (lkD e))) (upd H a (.frz od u)) := by
  have wo := isDct.own w
  obtain ⟨a, u, s, h, r, g, n⟩ := k.ownO he wo
  refine ⟨a, u, s, h, r.mut', fun od => ?_⟩
  have sg : Same G (upd G a (.frz od u)) := sameNew g
  exact k.lockV he wo s h r.mut g n od ((r.mono sg).lk w upd_same)
def MS.lock (i : Nat) (m : MS) : MS := ⟨fun ed env Ex => ∃ e, get env i = e ∧ isDct e = true ∧ m.wp ed (put env i (.d (lkD e))) Ex, fun h1 h2 h3 h4 h5 ⟨e, a, b, q⟩ => ⟨e, a, b, m.mono h1 h2 h3 h4 h5 q⟩⟩
theorem RepK.at {G : Hp} : ∀ {vs : List (L2.Key × V)} {xs : List (L2.Key × D)} {i : Nat} {p : L2.Key × V}, RepK Ω G vs xs → vs[i]? = some p → ∃ x, xs[i]? = some (p.1, x) ∧ Rep Ω G p.2 x
  | _, _, _, _, .nil, h => by simp at h
  | _, _, 0, _, .cons r t, h => by
    simp at h
    subst h
    exact ⟨_, rfl, r⟩
  | _, _, i + 1, p, .cons r t, h => by
    obtain ⟨x, h1, h2⟩ := RepK.at (i := i) (p := p) t (by simpa using h)
    exact ⟨x, by simpa using h1, h2⟩
theorem RepK.keys {G : Hp} : ∀ {vs : List (L2.Key × V)} {xs : List (L2.Key × D)}, RepK Ω G vs xs → Reps Ω G (vs.map fun kv : L2.Key × V => kV kv.1) (xs.map fun p : L2.Key × D => kD p.1)
  | _, _, .nil => .nil
  | _, _, .cons _ r => .cons (repk _) r.keys
end
end KD
set_option Elab.async false
set_option linter.all false
set_option maxRecDepth 100000
set_option maxHeartbeats 3200000
namespace KW
open PySem PySem.Spec PyProof.Rows L2
end KW
set_option Elab.async false
set_option linter.all false
set_option maxRecDepth 100000
set_option maxHeartbeats 1000000
namespace KD
open PySem PySem.Spec PyProof.Rows L2 KW
end KD
set_option Elab.async false
set_option linter.all false
set_option maxRecDepth 1000000
set_option maxHeartbeats 1000000
namespace HH
noncomputable def rot (u : Nat) : Nat := Nat.mod (Nat.mul (Nat.add (Nat.mod (Nat.mul u 2147483648) 18446744073709551616) (Nat.div u 8589934592)) 11400714785074694791) 18446744073709551616
/-- a step of the hash -/
noncomputable def st (a x : Nat) : Nat := rot (Nat.mod (Nat.add a x) 18446744073709551616)
noncomputable def bv (a : Nat) : Nat := Nat.mod (Nat.mul a 839798700976720815) 18446744073709551616
noncomputable def dfs (q : Nat → Bool) (xs : List Nat) (k : Nat) : Nat → List Nat → List Nat :=
  Nat.rec (motive := fun _ => Nat → List Nat → List Nat) (fun a tl => Bool.rec (motive := fun _ => List Nat) tl (bv a :: tl) (q (bv a)))
    (fun _ ih a tl => List.rec (motive := fun _ => List Nat) tl (fun x _ r => ih (st a x) r) xs) k
noncomputable def mrg (xs : List Nat) : List Nat → List Nat :=
  List.rec (motive := fun _ => List Nat → List Nat) (fun ys => ys) (fun x xs ih ys => List.rec (motive := fun _ => List Nat) (x :: xs) (fun y ys ih2 => Bool.rec (motive := fun _ => List Nat) (y :: ih2) (x :: ih (y :: ys)) (Nat.ble x y)) ys) xs
noncomputable def spl (l : List Nat) : List Nat × List Nat := List.rec (motive := fun _ => List Nat × List Nat) ([], []) (fun x _ r => (x :: r.2, r.1)) l
noncomputable def srt (d : Nat) : List Nat → List Nat :=
  Nat.rec (motive := fun _ => List Nat → List Nat) (fun l => l) (fun _ ih l => mrg (ih (spl l).1) (ih (spl l).2)) d
noncomputable def gap (V E : Nat) (l : List Nat) : Nat → Bool :=
  List.rec (motive := fun _ => Nat → Bool) (fun p => Nat.ble p E) (fun x _ ih p => Bool.rec (motive := fun _ => Bool) false (ih (Nat.add x V)) (Nat.ble p x)) l
def xsV (V : Nat) : List Nat := (List.range V).map fun x => Nat.mod (Nat.mul x 14029467366897019727) 18446744073709551616
def bus : List Nat := [16775350177469367149, 17709923410961135189, 15746002411462551884, 16680575644954319924, 14716654645455736619, 14811429177970783844, 13687306879448921354, 13782081411963968579]
def bu (n : Nat) : Nat := bus.getD n 0
noncomputable def chk (V k w d j : Nat) : Bool := gap V (Nat.mul (Nat.add j 1) w) (srt d (dfs (fun b => Nat.beq (Nat.div b w) j) (xsV V) k 2870177450012600261 (Bool.rec (motive := fun _ => List Nat) [] [bu (Nat.add k 1)] (Nat.beq (Nat.div (bu (Nat.add k 1)) w) j)))) (Nat.mul j w)
theorem mrg_perm : ∀ xs ys : List Nat, (mrg xs ys).Perm (xs ++ ys)
  | [], ys => List.Perm.refl _
  | x :: xs, ys => by
    induction ys with
    | nil => show (x :: xs).Perm _; rw [List.append_nil]
    | cons y ys ih =>
      show (Bool.rec (motive := fun _ => List Nat) (y :: mrg (x :: xs) ys) (x :: mrg xs (y :: ys)) (Nat.ble x y)).Perm _
      cases Nat.ble x y with
      | true => exact (mrg_perm xs (y :: ys)).cons x
      | false =>
        have z := ih.cons y
        exact z.trans (List.perm_middle.symm)
theorem spl_perm : ∀ l : List Nat, ((spl l).1 ++ (spl l).2).Perm l
  | [] => List.Perm.refl _
  | x :: l => by
    show (x :: (spl l).2 ++ (spl l).1).Perm (x :: l)
    exact (List.perm_append_comm.trans (spl_perm l)).cons x
theorem srt_perm : ∀ (d : Nat) (l : List Nat), (srt d l).Perm l
  | 0, l => List.Perm.refl _
  | d + 1, l => by
    show (mrg (srt d (spl l).1) (srt d (spl l).2)).Perm l
    exact (mrg_perm _ _).trans (((srt_perm d _).append (srt_perm d _)).trans (spl_perm l))
def Far (V b c : Nat) : Prop := b + V ≤ c ∨ c + V ≤ b
theorem gap_is {V E : Nat} : ∀ (l : List Nat) (p : Nat), gap V E l p = true → l.Pairwise (Far V) ∧ (∀ x ∈ l, p ≤ x ∧ x + V ≤ E) ∧ p ≤ E
  | [], p, h => ⟨.nil, fun x hx => (nomatch hx), Nat.le_of_ble_eq_true h⟩
  | x :: l, p, h => by
    have h : Bool.rec (motive := fun _ => Bool) false (gap V E l (x + V)) (Nat.ble p x) = true := h
    cases e : Nat.ble p x with
    | false => rw [e] at h; cases h
    | true =>
      rw [e] at h
      have le := Nat.le_of_ble_eq_true e
      obtain ⟨h1, h2, h3⟩ := gap_is l (x + V) h
      refine ⟨List.pairwise_cons.mpr ⟨fun y hy => .inl (h2 y hy).1, h1⟩, fun y hy => ?_, by omega⟩
      rcases List.mem_cons.mp hy with rfl | hy
      · exact ⟨le, h3⟩
      · have := h2 y hy; omega
def tups (V : Nat) : Nat → List (List Nat)
  | 0 => [[]]
  | k + 1 => (List.range V).flatMap fun x => (tups V k).map (x :: ·)
noncomputable def mulx (x : Nat) : Nat := Nat.mod (Nat.mul x 14029467366897019727) 18446744073709551616
noncomputable def acc (a : Nat) (p : List Nat) : Nat := p.foldl (fun a x => st a (mulx x)) a
theorem dfs_is (q : Nat → Bool) (V : Nat) : ∀ (k a : Nat) (tl : List Nat), dfs q (xsV V) k a tl = ((tups V k).map fun p => bv (acc a p)).filter q ++ tl
  | 0, a, tl => by
    show Bool.rec (motive := fun _ => List Nat) tl (bv a :: tl) (q (bv a)) = [bv a].filter q ++ tl
    rw [List.filter_cons]
    cases q (bv a) <;> rfl
  | k + 1, a, tl => by
    show List.rec (motive := fun _ => List Nat) tl (fun x _ r => dfs q (xsV V) k (st a x) r) (xsV V) = ((List.flatMap (fun x => (tups V k).map (x :: ·)) (List.range V)).map fun p => bv (acc a p)).filter q ++ tl
    unfold xsV
    have key : ∀ L : List Nat, List.rec (motive := fun _ => List Nat) tl (fun x _ r => dfs q (xsV V) k (st a x) r) (L.map mulx) = ((List.flatMap (fun x => (tups V k).map (x :: ·)) L).map fun p => bv (acc a p)).filter q ++ tl := by
      intro L
      induction L with
      | nil => rfl
      | cons x L ih =>
        show dfs q (xsV V) k (st a (mulx x)) (List.rec (motive := fun _ => List Nat) tl (fun x _ r => dfs q (xsV V) k (st a x) r) (L.map mulx)) = _
        rw [ih, dfs_is q V k, List.flatMap_cons, List.map_append, List.filter_append, List.append_assoc, List.map_map]
        rfl
    exact key (List.range V)
theorem pw_parts {R : Nat → Nat → Prop} {key : Nat → Nat} (far : ∀ x y, key x ≠ key y → R x y) : ∀ L : List Nat, (∀ j, (L.filter fun b => Nat.beq (key b) j).Pairwise R) → L.Pairwise R
  | [], _ => .nil
  | x :: L, h => by
    refine List.pairwise_cons.mpr ⟨fun y hy => ?_, pw_parts far L fun j => ?_⟩
    · by_cases e : key x = key y
      · have z := h (key x)
        rw [List.filter_cons_of_pos (p := fun b => (key b).beq (key x)) (Nat.beq_refl (key x))] at z
        exact (List.pairwise_cons.mp z).1 y (List.mem_filter.mpr ⟨hy, by rw [e]; exact Nat.beq_refl _⟩)
      · exact far x y e
    · have z := h j
      rw [List.filter_cons] at z
      split at z
      · exact (List.pairwise_cons.mp z).2
      · exact z
theorem far_symm {V : Nat} (a b : Nat) (h : Far V a b) : Far V b a := h.symm
/-- no two of the numbers behind k steps are near one another -/
def Apart (V k : Nat) : Prop := ((tups V k).map (fun p => bv (acc 2870177450012600261 p)) ++ [bu (k + 1)]).Pairwise (Far V) ∧ ∀ p ∈ tups V k, bv (acc 2870177450012600261 p) + V ≤ 18446744073709551616
theorem apart_of {V k w c d : Nat} (hw : w * c = 18446744073709551616) (h : ∀ j, j < c → chk V k w d j = true) : Apart V k := by
  have wp : 0 < w := by
    rcases Nat.eq_zero_or_pos w with z | z
    · rw [z, Nat.zero_mul] at hw; cases hw
    · exact z
  have hL : ∀ j, j < c → ((((tups V k).map (fun p => bv (acc 2870177450012600261 p)) ++ [bu (k + 1)]).filter fun b => Nat.beq (b / w) j).Pairwise (Far V)) ∧ ∀ x ∈ (((tups V k).map (fun p => bv (acc 2870177450012600261 p)) ++ [bu (k + 1)]).filter fun b => Nat.beq (b / w) j), j * w ≤ x ∧ x + V ≤ (j + 1) * w := fun j hj => by
    have z := h j hj
    unfold chk at z
    obtain ⟨z1, z2, _⟩ := gap_is _ _ z
    have p := srt_perm d (dfs (fun b => Nat.beq (b / w) j) (xsV V) k 2870177450012600261 (Bool.rec (motive := fun _ => List Nat) [] [bu (k + 1)] (Nat.beq (bu (k + 1) / w) j)))
    have e : dfs (fun b => Nat.beq (b / w) j) (xsV V) k 2870177450012600261 (Bool.rec (motive := fun _ => List Nat) [] [bu (k + 1)] (Nat.beq (bu (k + 1) / w) j)) = (((tups V k).map (fun p => bv (acc 2870177450012600261 p)) ++ [bu (k + 1)]).filter fun b => Nat.beq (b / w) j) := by
      rw [dfs_is, List.filter_append, List.filter_cons]
      cases Nat.beq (bu (k + 1) / w) j <;> rfl
    have p := p.trans (List.Perm.of_eq e)
    exact ⟨(p.pairwise_iff (fun {a b} => far_symm a b)).mp z1, fun x hx => z2 x (p.mem_iff.mpr hx)⟩
  have lt : ∀ b, b < 18446744073709551616 → b / w < c := fun b hb => by
    rw [Nat.div_lt_iff_lt_mul wp, Nat.mul_comm, hw]; exact hb
  have small : ∀ x ∈ (tups V k).map (fun p => bv (acc 2870177450012600261 p)) ++ [bu (k + 1)], x < 18446744073709551616 := fun x hx => by
    rcases List.mem_append.mp hx with hx | hx
    · obtain ⟨p, _, rfl⟩ := List.mem_map.mp hx
      exact Nat.mod_lt _ (by decide)
    · rw [List.mem_singleton.mp hx]
      unfold bu
      rw [List.getD_eq_getElem?_getD]
      cases e : bus[k + 1]? with
      | none => decide
      | some y =>
        have m := List.mem_of_getElem? e
        have all : ∀ y ∈ bus, y < 18446744073709551616 := by decide
        exact all y m
  have up : ∀ x ∈ (tups V k).map (fun p => bv (acc 2870177450012600261 p)) ++ [bu (k + 1)], (x / w) * w ≤ x ∧ x + V ≤ (x / w + 1) * w := fun x hx => by
    exact (hL (x / w) (lt x (small x hx))).2 x (List.mem_filter.mpr ⟨hx, Nat.beq_refl _⟩)
  refine ⟨?_, fun p hp => ?_⟩
  · have cross : ∀ x ∈ (tups V k).map (fun p => bv (acc 2870177450012600261 p)) ++ [bu (k + 1)], ∀ y ∈ (tups V k).map (fun p => bv (acc 2870177450012600261 p)) ++ [bu (k + 1)], x / w ≠ y / w → Far V x y := fun x hx y hy ne => by
      have a := up x hx
      have b := up y hy
      rcases Nat.lt_or_gt_of_ne ne with l | l
      · have := Nat.mul_le_mul_right w (show x / w + 1 ≤ y / w from l)
        left; omega
      · have := Nat.mul_le_mul_right w (show y / w + 1 ≤ x / w from l)
        right; omega
    generalize (tups V k).map (fun p => bv (acc 2870177450012600261 p)) ++ [bu (k + 1)] = L at *
    have z := pw_parts (R := fun x y => x ∈ L → y ∈ L → Far V x y) (key := fun b => b / w) (fun x y ne hx hy => cross x hx y hy ne) L (fun j => by
      by_cases hj : j < c
      · exact ((hL j hj).1).imp fun h _ _ => h
      · have e : L.filter (fun b => Nat.beq (b / w) j) = [] := List.filter_eq_nil_iff.mpr fun b hb z => by
          have z := Nat.eq_of_beq_eq_true z
          have := lt b (small b hb)
          omega
        rw [e]
        exact .nil)
    exact List.Pairwise.imp_of_mem (fun {a b} ha hb h => h ha hb) z
  · have a := up (bv (acc 2870177450012600261 p)) (List.mem_append_left _ (List.mem_map.mpr ⟨p, hp, rfl⟩))
    have b := lt _ (small _ (List.mem_append_left _ (List.mem_map.mpr ⟨p, hp, rfl⟩)))
    have := Nat.mul_le_mul_right w (show bv (acc 2870177450012600261 p) / w + 1 ≤ c from b)
    rw [Nat.mul_comm c w, hw] at this
    omega
end HH
set_option Elab.async false
set_option linter.all false
set_option maxRecDepth 1000000
set_option maxHeartbeats 0
namespace HH
theorem one {V k d : Nat} (h : chk V k 18446744073709551616 d 0 = true) : Apart V k := apart_of (c := 1) (Nat.mul_one _) fun j hj => by
  obtain rfl : j = 0 := by omega
  exact h
end HH
set_option Elab.async false
set_option linter.all false
set_option maxRecDepth 100000
set_option maxHeartbeats 3200000
namespace PySem
end PySem
namespace KW
open PySem PySem.Spec PyProof.Rows L2
end KW
set_option Elab.async false
set_option linter.all false
set_option maxRecDepth 100000
set_option maxHeartbeats 1000000
namespace KD
open PySem PySem.Spec PyProof.Rows L2
end KD
set_option Elab.async false
set_option linter.all false
set_option maxRecDepth 100000
set_option maxHeartbeats 1000000
namespace KD
open PySem PySem.Spec PyProof.Rows L2
end KD
set_option Elab.async false
set_option linter.all false
set_option maxRecDepth 100000
set_option maxHeartbeats 1000000
namespace KW
open PySem PySem.Spec PyProof.Rows L2
end KW
set_option Elab.async false
set_option linter.all false
set_option maxRecDepth 100000
set_option maxHeartbeats 1000000
namespace KD
open PySem PySem.Spec PyProof.Rows L2
end KD
set_option Elab.async false
set_option linter.all false
set_option maxRecDepth 100000
set_option maxHeartbeats 1000000
namespace KD
open PySem PySem.Spec PyProof.Rows L2
def mIxOwn (i : Nat) (mb : M D) : M D := ⟨fun env Q Ex => ∃ xs, get env i = .own xs ∧ mb.wp env (fun y => ∃ j d, y = .int j ∧ atI xs j = some d ∧ Q d) Ex, fun h hx ⟨xs, e, q⟩ => ⟨xs, e, mb.mono2 (fun _ ⟨j, d, a, b, q⟩ => ⟨j, d, a, b, h _ q⟩) hx q⟩⟩
theorem dn_ixOwn {Ω : Obs} {A : Am} {E : XK} {K : PySem.W.Frag} {i : Nat} {tb : TE} {mb : M D} (hb : Den Ω A E tb mb) : Den Ω A E (tOp (rIxL K) (tVar i) tb) (mIxOwn i mb) := fun G σ env H Q Ex k f q => by
  obtain ⟨xs, e, q⟩ := q
  obtain ⟨a, vs, hv, ha, r, g, n⟩ := k.own e
  refine ⟨.ref a, hv, hb G σ env H _ Ex k f (mb.mono (fun y ⟨j, d, e1, e2, q⟩ G1 y1 H1 t1 r1 => ?_) q)⟩
  subst e1
  cases r1
  obtain ⟨h', _⟩ := t1.own a (.lst vs) trivial ha n g
  obtain ⟨v, hv', rv⟩ := r.atI e2
  exact ⟨a, vs, j, v, rfl, rfl, SqL.of h', hv', q G1 v H1 t1 (rv.mono t1.sub)⟩
end KD
set_option Elab.async false
set_option linter.all false
set_option maxRecDepth 100000
set_option maxHeartbeats 1000000
namespace KD
open PySem PySem.Spec PyProof.Rows L2
end KD
set_option Elab.async false
set_option linter.all false
set_option maxRecDepth 100000
set_option maxHeartbeats 3200000
namespace KW
open PySem PySem.Spec PyProof.Rows L2
end KW
set_option Elab.async false
set_option linter.all false
set_option maxRecDepth 100000
set_option maxHeartbeats 1000000
namespace KD
open PySem PySem.Spec PyProof.Rows L2 KW
end KD
set_option Elab.async false
set_option linter.all false
set_option maxRecDepth 100000
set_option maxHeartbeats 1000000
namespace KD
open PySem PySem.Spec PyProof.Rows L2 KW
section
variable {Ω : Obs} {A : Am} {E : XK}
/-- what is told does not hold the dict of slot j -/
def DenB (Ω : Obs) (A : Am) (E : XK) (j : Nat) (t : TE) (m : M D) : Prop := ∀ G σ env H Q a od u, Ok Ω A G σ env H → σ[j]? = some (some (.ref a)) → G a = some (.frz od u) → m.wp env (fun d => ∀ G' v H', Tr A G H G' H' → Rep Ω (but G' a) v d → Q v H') (fun _ => False) → t σ H Q
theorem DenB.flat {j : Nat} {t : TE} {m : M D} (h : Den Ω A E t m) : DenB Ω A E j t (m.bind fun d => ⟨fun _ Q _ => flD d = true ∧ Q d, fun h _ q => ⟨q.1, h _ q.2⟩⟩) := fun G σ env H Q a od u k _ _ q =>
  h G σ env H Q (fun _ => False) k rf_no (m.mono (fun d q G' v H' t r => by
    refine q.2 G' v H' t ?_
    have z := q.1
    cases d <;> first | cases z | skip
    all_goals (cases r; constructor)) q)
end
end KD
set_option Elab.async false
set_option linter.all false
set_option maxRecDepth 100000
set_option maxHeartbeats 3200000
namespace KW
open PySem PySem.Spec PyProof.Rows L2
end KW
set_option Elab.async false
set_option linter.all false
set_option maxRecDepth 100000
set_option maxHeartbeats 1000000
namespace KD
open PySem PySem.Spec PyProof.Rows L2 KW
end KD
set_option Elab.async false
set_option linter.all false
set_option maxRecDepth 100000
set_option maxHeartbeats 1000000
namespace KD
open PySem PySem.Spec PyProof.Rows L2 KW
end KD
set_option Elab.async false
set_option linter.all false
set_option maxRecDepth 100000
set_option maxHeartbeats 3200000
namespace KW
open PySem PySem.Spec PyProof.Rows L2
abbrev NX := List (KD.NK × Addr × V)
def NRel (xs : NX) (ys : List (NestedKey × Addr × Value)) : Prop := Paired (fun (p : KD.NK × Addr × V) (q : NestedKey × Addr × Value) => p.1 = q.1 ∧ p.2.1 = q.2.1 ∧ RelV p.2.2 q.2.2) xs ys
def ndP (P : Program) (w : World) (a : Addr) (xs : NX) (h : Heap) : Prop := xs.length ≤ sizeLine ∧ (a == sysModules) = false ∧ ∃ ys, NRel xs ys ∧ ∃ o es ep, h.get? a = some o ∧ o.ExactDict ∧ o.data = .dict es ep ∧ es.toList = ys.map (entryOfKey (nestedKind P w)) ∧ (ys.map (·.1)).Nodup
section
variable {P : Program} {w : World} {a : Addr} {xs : NX} {H : Hp} {h h' : Heap}
theorem ndP_lift (x : ndP P w a xs h) (e : ∀ o, h.get? a = some o → h'.get? a = some o) : ndP P w a xs h' := by
  obtain ⟨z, hd, ys, r, o, es, ep, ho, q⟩ := x
  exact ⟨z, hd, ys, r, o, es, ep, e _ ho, q⟩
theorem ndP_obj (x : ndP P w a xs h) : ObjOk P w H h a (.ext (ndP P w a xs)) := by
  obtain ⟨z, hd, ys, r, o, es, ep, ho, q⟩ := id x
  exact ⟨x, ⟨o, ho⟩, fun h1 h2 x1 e => ndP_lift x1 e⟩
theorem ndP_mut (x : ndP P w a xs h) : KD.MutO (.ext (ndP P w a xs)) := fun c q e => by
  obtain ⟨z, hd, ys, r, o, es, ep, ho, ex, hdt, q1⟩ := id x
  unfold LamX.CodeO at e
  injection e with e
  have gt : ∀ b o', ({ h with objs := Array.replicate (a + 1) o } : Heap).get? b = some o' → o' = o := fun b o' hb => by
    have hb : (Array.replicate (a + 1) o)[b]? = some o' := ((Heap.get?_eq_some _ _ _).1 hb).1
    rw [Array.getElem?_replicate] at hb
    split at hb
    · injection hb with hb
      exact hb.symm
    · cases hb
  have x2 : ndP P w a xs { h with objs := Array.replicate (a + 1) o } := ndP_lift x fun o' ho' => by
    rw [ho] at ho'
    cases ho'
    refine (Heap.get?_eq_some _ _ _).2 ⟨?_, ((Heap.get?_eq_some _ _ _).1 ho).2⟩
    show (Array.replicate (a + 1) o)[a]? = some o
    rw [Array.getElem?_replicate, if_pos (Nat.lt_succ_self a)]
  rw [← e] at x2
  obtain ⟨oc, vs, t, h1, h2, _⟩ := x2
  rw [gt _ _ h1, hdt] at h2
  cases h2
end
def valN (xs : NX) (k : KD.NK) : Option V := (xs.find? fun p => decide (p.1 = k)).map fun p => p.2.2
def putN (xs : NX) (k : KD.NK) (b : Addr) (v : V) : NX := if (valN xs k).isSome then xs.map (fun p => if p.1 = k then (p.1, p.2.1, v) else p) else xs ++ [(k, b, v)]
theorem putN_len (xs : NX) (k : KD.NK) (b : Addr) (v : V) : (putN xs k b v).length ≤ xs.length + 1 := by
  unfold putN
  split
  · rw [List.length_map]; omega
  · rw [List.length_append]; exact Nat.le_refl _
theorem NRel.val {xs : NX} {ys : List (NestedKey × Addr × Value)} (r : NRel xs ys) (k : NestedKey) : RelO (valN xs k) ((atKey ys k).map (·.2)) := by
  induction r with
  | nil => exact True.intro
  | @cons p q ps qs h t ih =>
    obtain ⟨h1, _, h2⟩ := h
    by_cases e : p.1 = k
    · have e' : q.1 = k := h1.symm.trans e
      have b : atKey (q :: qs) k = some q.2 := by simp [atKey, List.find?_cons, e']
      have b2 : valN (p :: ps) k = some p.2.2 := by simp [valN, List.find?_cons, e]
      rw [b2, b]
      exact h2
    · have e' : ¬ q.1 = k := fun z => e (h1.trans z)
      have b : atKey (q :: qs) k = atKey qs k := by simp [atKey, List.find?_cons, e']
      have b2 : valN (p :: ps) k = valN ps k := by simp [valN, List.find?_cons, e]
      rw [b2, b]
      exact ih
theorem NRel.repl {xs : NX} {ys : List (NestedKey × Addr × Value)} (r : NRel xs ys) (k : NestedKey) {v : V} {u : Value} (rv : RelV v u) : NRel (xs.map fun p => if p.1 = k then (p.1, p.2.1, v) else p) (ys.map (putAt k u)) := by
  induction r with
  | nil => exact .nil
  | @cons p q ps qs h t ih =>
    refine .cons ?_ ih
    unfold putAt
    dsimp only
    by_cases e : p.1 = k
    · rw [if_pos e, if_pos (h.1.symm.trans e)]
      exact ⟨h.1, h.2.1, rv⟩
    · rw [if_neg e, if_neg (fun z => e (h.1.trans z))]
      exact h
theorem NRel.put {xs : NX} {ys : List (NestedKey × Addr × Value)} (r : NRel xs ys) (k : NestedKey) (b : Addr) {v : V} {u : Value} (rv : RelV v u) : NRel (putN xs k b v) (storedH ys k b u) := by
  have e : (valN xs k).isSome = (atKey ys k).isSome := by rw [(r.val k).isSome_eq, Option.isSome_map]
  unfold putN storedH
  rw [e]
  by_cases q : (atKey ys k).isSome = true
  · rw [if_pos q, if_pos q]
    exact r.repl k rv
  · rw [if_neg q, if_neg q]
    exact Paired.snoc r ⟨rfl, rfl, rv⟩
section
variable {X : Cx} {pins : List (Addr × Obj)} {σ : L2.St} {H : Hp} {s : Shared}
mutual
theorem key_nested (I : Inv X pins σ H s) : ∀ {v : V} {k : KD.NK} {u : Value}, KD.KeyIs H v k → RelV v u → NestedIs s.heap k u
  | _, _, _, .none, r => by
    cases (show _ = Value.none from r)
    exact .none
  | _, _, _, .num i, r => by
    obtain ⟨t, rfl⟩ := r
    exact .int i t
  | _, _, _, .text x, r => by
    obtain ⟨t, rfl⟩ := r
    exact .text x t
  | _, _, _, .tup (a := a) h q, r => by
    cases (show _ = Value.ref a from r)
    have sq : SqT X.K H a _ := h.elim (fun h => .inl (.inl h)) fun h => h.sq
    obtain ⟨its, rv, ⟨ob, ho, hc, n, hd⟩, _⟩ := I.tuple sq
    exact .tup ho hc hd (by simpa using keys_nested I q rv)
theorem keys_nested (I : Inv X pins σ H s) : ∀ {vs : List V} {ks : List KD.NK} {us : List Value}, KD.KeysIs H vs ks → Vals vs us → NestedAll s.heap ks us
  | _, _, _, .nil, r => by
    cases r
    exact .nil
  | _, _, _, .cons h q, r => by
    cases r with
    | cons r1 r2 => exact .cons (key_nested I h r1) (keys_nested I q r2)
end
/-- the keys are there -/
def KeysOk (H : Hp) (xs : NX) : Prop := ∀ p ∈ xs, KD.KeyIs H (.ref p.2.1) p.1 ∧ p.1.depth ≤ 8
theorem nd_of {a : Addr} {xs : NX} (I : Inv X pins σ H s) (e : Rd H a (.ext (ndP X.prog X.w a xs))) (ks : KeysOk H xs) : xs.length ≤ sizeLine ∧ (a == sysModules) = false ∧ ∃ ys, NRel xs ys ∧ s.heap.DictOfH (nestedKind X.prog X.w) a ys := by
  obtain ⟨z, hd, ys, r, o, es, ep, ho, ex, hdt, he, nd⟩ := (rd_of I.hok e).1
  refine ⟨z, hd, ys, r, o, es, ep, ho, ex, hdt, he, ?_, nd⟩
  clear he nd z hd e
  unfold NRel at r
  induction r with
  | nil => exact fun _ h => by cases h
  | @cons p q ps qs h t ih =>
    intro y hy
    rcases List.mem_cons.mp hy with rfl | hy
    · obtain ⟨k1, k2⟩ := ks p List.mem_cons_self
      exact ⟨by rw [← h.1, ← h.2.1]; exact key_nested I k1 rfl, by rw [← h.1]; exact k2⟩
    · exact ih (fun p hp => ks p (List.mem_cons_of_mem _ hp)) y hy
/-- what the dict at a holds at the tuple y -/
def DGetN (X : Cx) (H : Hp) (a : Addr) (y : V) (r : Option V) : Prop := ∃ (xs : NX) (k : KD.NK) (b : Addr), Rd H a (.ext (ndP X.prog X.w a xs)) ∧ KeysOk H xs ∧ y = .ref b ∧ KD.KeyIs H y k ∧ k.depth ≤ 8 ∧ r = valN xs k
section
variable {a : Addr} {y v : V} {u r : Value} {o : Option V} {A : Around} {E : Value → Shared → Prop}
theorem n_get {Q : Value → Shared → Prop} (hu : A.in1.units + 8 < cLine) (I : Inv X pins σ H s) (g : DGetN X H a y (some v)) (ry : RelV y u) (go : ∀ z s2, Inv X pins σ H s2 → RelV v z → Q z s2) : wpAny (model X.prog X.w) A (getItem (.ref a) u) Q E s := by
  obtain ⟨xs, k, b, e, ks, rfl, ky, dp, l⟩ := g
  cases (show u = Value.ref b from ry)
  obtain ⟨z, hd, ys, rel, dd⟩ := nd_of I e ks
  obtain ⟨w2, hw, rw2⟩ := RelO.some_of (v := v) (o := (atKey ys k).map (·.2)) (by rw [l]; exact rel.val k)
  obtain ⟨p, hp, hp2⟩ := Option.map_eq_some_iff.mp hw
  refine wpAny_getItem_heap (knd := nestedKind X.prog X.w) hu ⟨key_nested I ky rfl, dp⟩ dd hp (hp2.symm ▸ go w2 _ (I.tok _) rw2)
theorem n_type (I : Inv X pins σ H s) (g : DGetN X H a y o) : s.TypeIs (.ref a) "dict" := by
  obtain ⟨xs, k, b, e, ks, _⟩ := g
  obtain ⟨_, _, ys, _, dd⟩ := nd_of I e ks
  exact dd.typeIs
end
end
section
variable {X : Cx} {K : PySem.W.Frag} {o i value : Expr} {pos pos' : Pos} {td ty tv : TE}
def tNGet (P : Program) (w : World) (td ty : TE) : TE := fun σ H Q => td σ H fun x H1 => ty σ H1 fun y H2 => ∃ (a : Addr) (xs : NX) (k : KD.NK) (b : Addr) (v : V), x = .ref a ∧ Rd H2 a (.ext (ndP P w a xs)) ∧ KeysOk H2 xs ∧ y = .ref b ∧ KD.KeyIs H2 y k ∧ k.depth ≤ 8 ∧ valN xs k = some v ∧ Q v H2
theorem pe_nget (hu : X.A.in1.units + 8 < cLine) (ho : PE X o td) (hi : PE X i ty) (hs : NoSl i) : PE X (.Subscript o i pos) (tNGet X.prog X.w td ty) := by
  refine ⟨fun pins s σ H Q I h => subD_of PySem.F.slot_dict_getitem.lookup hs (thn (ho.run pins s σ H _ I h) fun u s1 ⟨x, H1, I1, rx, q1⟩ => thn (hi.run pins s1 σ H1 _ I1 q1) fun iv s2 ⟨y, H2, I2, ry, a, xs, k, b, v, ex, e1, e2, e3, e4, e5, e6, q2⟩ => ?_)⟩
  subst ex
  cases (show u = Value.ref a from rx)
  have g : DGetN X H2 a y (some v) := ⟨xs, k, b, e1, e2, e3, e4, e5, e6.symm⟩
  exact ⟨n_type I2 g, n_get hu I2 g ry fun z s3 I3 rz => ⟨v, H2, I3, rz, q2⟩⟩
end
end KW
set_option Elab.async false
set_option linter.all false
set_option maxRecDepth 100000
set_option maxHeartbeats 3200000
namespace KW
open PySem PySem.Spec PyProof.Rows L2
end KW
set_option Elab.async false
set_option linter.all false
set_option maxRecDepth 100000
set_option maxHeartbeats 1000000
namespace KD
open PySem PySem.Spec PyProof.Rows L2 KW
structure NdΩ (Ω : Obs) (P : Program) (w : World) : Prop where
  eq : Ω.nd = KW.ndP P w
mutual
def nkD : D → Option NK
  | .int i => some (.num i)
  | .str x => some (.text x)
  | .non => some .none
  | .tup xs => (nksD xs).map .tup
  | .ftup xs => (nksD xs).map .tup
  | _ => none
def nksD : List D → Option (List NK)
  | [] => some []
  | x :: xs => (nkD x).bind fun k => (nksD xs).map fun ks => k :: ks
end
section
variable {Ω : Obs} {G H : Hp}
mutual
theorem Rep.nk : ∀ {v : V} {x : D} {k : NK}, Rep Ω G v x → nkD x = some k → KeyIs G v k
  | _, _, _, .int i, e => by simp only [nkD, Option.some.injEq] at e; subst e; exact .num i
  | _, _, _, .bl b, e => by simp only [nkD] at e; cases e
  | _, _, _, .str x, e => by simp only [nkD, Option.some.injEq] at e; subst e; exact .text x
  | _, _, _, .non, e => by simp only [nkD, Option.some.injEq] at e; subst e; exact .none
  | _, _, _, .tup h r, e => by
    simp only [nkD, Option.map_eq_some_iff] at e
    obtain ⟨ks, e, rfl⟩ := e
    exact .tup (.inl h) (Reps.nk r e)
  | _, _, _, .ftup h r, e => by
    simp only [nkD, Option.map_eq_some_iff] at e
    obtain ⟨ks, e, rfl⟩ := e
    exact .tup (.inr h) (Reps.nk r e)
  | _, _, _, .lst _ _, e => by simp only [nkD] at e; cases e
  | _, _, _, .obj _, e => by simp only [nkD] at e; cases e
  | _, _, _, .dk _ _, e => by simp only [nkD] at e; cases e
  | _, _, _, .dt _ _, e => by simp only [nkD] at e; cases e
  | _, _, _, .ftb _ _, e => by simp only [nkD] at e; cases e
  | _, _, _, .fkb _ _, e => by simp only [nkD] at e; cases e
  | _, _, _, .ndb _ _, e => by simp only [nkD] at e; cases e
theorem Reps.nk : ∀ {vs : List V} {xs : List D} {ks : List NK}, Reps Ω G vs xs → nksD xs = some ks → KeysIs G vs ks
  | _, _, _, .nil, e => by simp only [nksD, Option.some.injEq] at e; subst e; exact .nil
  | _, _, _, .cons h r, e => by
    simp only [nksD, Option.bind_eq_some_iff, Option.map_eq_some_iff] at e
    obtain ⟨k, e1, ks, e2, rfl⟩ := e
    exact .cons (Rep.nk h e1) (Reps.nk r e2)
end
/-- a tuple as such a key -/
def nkT (x : D) : Option NK := (asTup x).bind fun xs => (nksD xs).map .tup
theorem nkT_nk {x : D} {k : NK} (e : nkT x = some k) : nkD x = some k := by
  unfold nkT at e
  cases x <;> first | (simp only [asTup, Option.bind_none] at e; cases e; done) | (simp only [asTup, Option.bind_some] at e; simp only [nkD]; exact e)
theorem Rep.nkt {v : V} {x : D} {k : NK} (r : Rep Ω G v x) (e : nkT x = some k) : ∃ b, v = .ref b ∧ KeyIs G v k := by
  have q := r.nk (nkT_nk e)
  unfold nkT at e
  cases x <;> first | (simp only [asTup, Option.bind_none] at e; cases e; done) | skip
  · cases r
    exact ⟨_, rfl, q⟩
  · cases r
    exact ⟨_, rfl, q⟩
def smallN (xs : List (NK × D)) : Prop := ∀ p ∈ xs, p.1.depth ≤ 8
def valND (xs : List (NK × D)) (k : NK) : Option D := (xs.find? fun p => decide (p.1 = k)).map (·.2)
def putND (xs : List (NK × D)) (k : NK) (d : D) : List (NK × D) := if (valND xs k).isSome then xs.map (fun p => if p.1 = k then (p.1, d) else p) else xs ++ [(k, d)]
theorem RepN.val : ∀ {vs : NX} {xs : List (NK × D)}, RepN Ω G vs xs → ∀ k, (valN vs k = none ∧ valND xs k = none) ∨ ∃ v x, valN vs k = some v ∧ valND xs k = some x ∧ Rep Ω G v x
  | _, _, .nil, k => .inl ⟨rfl, rfl⟩
  | _, _, .cons (k := k0) (b := b) (v := v) (x := x) (vs := vs) (xs := xs) _ h r, k => by
    by_cases e : k0 = k
    · exact .inr ⟨v, x, by simp [valN, List.find?_cons, e], by simp [valND, List.find?_cons, e], h⟩
    · rw [show valN ((k0, b, v) :: vs) k = valN vs k by simp [valN, List.find?_cons, e], show valND ((k0, x) :: xs) k = valND xs k by simp [valND, List.find?_cons, e]]
      exact RepN.val r k
theorem RepN.some {vs : NX} {xs : List (NK × D)} (r : RepN Ω G vs xs) (k : NK) : (valN vs k).isSome = (valND xs k).isSome := by
  rcases r.val k with ⟨a, b⟩ | ⟨v, x, a, b, _⟩ <;> rw [a, b] <;> rfl
theorem RepN.repl {k : NK} {v : V} {d : D} (rv : Rep Ω G v d) : ∀ {vs : NX} {xs : List (NK × D)}, RepN Ω G vs xs → RepN Ω G (vs.map fun p => if p.1 = k then (p.1, p.2.1, v) else p) (xs.map fun p => if p.1 = k then (p.1, d) else p)
  | _, _, .nil => .nil
  | _, _, .cons (k := k0) ky h r => by
    rw [List.map_cons, List.map_cons]
    by_cases e : k0 = k
    · rw [if_pos e, if_pos e]
      exact .cons ky rv (RepN.repl rv r)
    · rw [if_neg e, if_neg e]
      exact .cons ky h (RepN.repl rv r)
theorem RepN.snoc {k : NK} {b : Addr} {v : V} {d : D} (hk : KeyIs G (.ref b) k) (rv : Rep Ω G v d) : ∀ {vs : NX} {xs : List (NK × D)}, RepN Ω G vs xs → RepN Ω G (vs ++ [(k, b, v)]) (xs ++ [(k, d)])
  | _, _, .nil => .cons hk rv .nil
  | _, _, .cons ky h r => .cons ky h (RepN.snoc hk rv r)
theorem RepN.put {k : NK} {b : Addr} {v : V} {d : D} (hk : KeyIs G (.ref b) k) (rv : Rep Ω G v d) {vs : NX} {xs : List (NK × D)} (r : RepN Ω G vs xs) : RepN Ω G (putN vs k b v) (putND xs k d) := by
  unfold putN putND
  rw [r.some k]
  split
  · exact r.repl rv
  · exact r.snoc hk rv
theorem RepN.keys (s : Same G H) : ∀ {vs : NX} {xs : List (NK × D)}, RepN Ω G vs xs → smallN xs → KeysOk H vs
  | _, _, .nil, _ => fun _ h => by cases h
  | _, _, .cons ky h r, sm => fun p hp => by
    rcases List.mem_cons.mp hp with rfl | hp
    · exact ⟨ky.mono s, sm _ List.mem_cons_self⟩
    · exact RepN.keys s r (fun q hq => sm q (List.mem_cons_of_mem _ hq)) p hp
theorem RepN.len : ∀ {vs : NX} {xs : List (NK × D)}, RepN Ω G vs xs → vs.length = xs.length
  | _, _, .nil => rfl
  | _, _, .cons _ _ r => by rw [List.length_cons, List.length_cons, RepN.len r]
theorem smallN.put {xs : List (NK × D)} {k : NK} {d : D} (h : smallN xs) (hk : k.depth ≤ 8) : smallN (putND xs k d) := fun p hp => by
  unfold putND at hp
  split at hp
  · obtain ⟨q, hq, rfl⟩ := List.mem_map.mp hp
    split
    · exact h q hq
    · exact h q hq
  · rcases List.mem_append.mp hp with hp | hp
    · exact h p hp
    · rw [List.mem_singleton.mp hp]
      exact hk
theorem smallN.nil : smallN [] := fun _ h => by cases h
theorem putND_len (xs : List (NK × D)) (k : NK) (d : D) : (putND xs k d).length ≤ xs.length + 1 := by
  unfold putND
  split
  · rw [List.length_map]; omega
  · rw [List.length_append]; exact Nat.le_refl _
end
section
variable {Ω : Obs} {A : Am} {E : XK} {K : PySem.W.Frag} {P : Program} {w : World} {ta tk tv : TE} {ma mk mv : M D}
/-- what stands in slot i, of one's own or locked -/
def asN (e : E1) (xs : List (NK × D)) : Prop := e = .ownD xs ∨ e = .d (.ndb xs)
theorem Ok.nd {G H : Hp} {σ : L2.St} {env : Env} (nω : NdΩ Ω P w) (k : Ok Ω A G σ env H) {i : Nat} {xs : List (NK × D)} (e : asN (get env i) xs) (sm : smallN xs) : ∃ a vs, σ[i]? = some (some (.ref a)) ∧ RepN Ω G vs xs ∧ ∀ G' H', Tr A G H G' H' → Rd H' a (.ext (ndP P w a vs)) ∧ KeysOk H' vs := by
  rcases e with e | e
  · obtain ⟨a, vs, hs, ha, r, g, nw⟩ := k.ownD e
    rw [nω.eq] at ha
    refine ⟨a, vs, hs, r, fun G' H' t => ⟨.inl (t.own a _ ?_ ha nw g).1, (r.mono t.sub).keys t.fr.sub sm⟩⟩
    obtain ⟨a', o, hs', ho, ro, _⟩ := k.ownO e rfl
    rw [hs] at hs'
    cases hs'
    rw [ha] at ho
    cases ho
    exact ro.mut
  · obtain ⟨v, hs, r⟩ := k.d e
    cases r with
    | ndb h r =>
      rw [nω.eq] at h
      exact ⟨_, _, hs, r, fun G' H' t => ⟨.inr ⟨_, t.fr.sub _ _ (t.sub _ _ h)⟩, (r.mono t.sub).keys t.fr.sub sm⟩⟩
def mNget (i : Nat) (mk : M D) : M D := ⟨fun env Q Ex => ∃ xs, asN (get env i) xs ∧ smallN xs ∧ mk.wp env (fun y => ∃ k x, nkT y = some k ∧ k.depth ≤ 8 ∧ valND xs k = some x ∧ Q x) Ex, fun h hx ⟨xs, a, b, q⟩ => ⟨xs, a, b, mk.mono2 (fun y ⟨k, x, c, d, e, q⟩ => ⟨k, x, c, d, e, h _ q⟩) hx q⟩⟩
theorem dn_nget {i : Nat} (nω : NdΩ Ω P w) (h : Den Ω A E tk mk) : Den Ω A E (tNGet P w (tVar i) tk) (mNget i mk) := fun G σ env H Q Ex k fE q => by
  obtain ⟨xs, e, sm, q⟩ := q
  obtain ⟨a, vs, hs, r, z⟩ := k.nd nω e sm
  refine ⟨_, hs, h G σ env H _ Ex k fE (mk.mono (fun y q G1 v1 H1 t1 r1 => ?_) q)⟩
  obtain ⟨ky, x, ek, dp, ev, q⟩ := q
  obtain ⟨z1, z2⟩ := z _ _ t1
  obtain ⟨b, rfl, kb⟩ := r1.nkt ek
  rcases (r.mono t1.sub).val ky with ⟨_, e2⟩ | ⟨v, x', e1, e2, rx⟩
  · rw [e2] at ev
    cases ev
  · rw [e2] at ev
    cases ev
    exact ⟨a, vs, ky, b, v, rfl, z1, z2, rfl, kb.mono t1.fr.sub, dp, e1, q _ _ _ t1 rx⟩
end
end KD
set_option Elab.async false
set_option linter.all false
set_option maxRecDepth 100000
set_option maxHeartbeats 1000000
namespace KD
open PySem PySem.Spec PyProof.Rows L2 KW
theorem set_sl {σ : L2.St} {i : Nat} : σ.set i (sl σ i) = σ := by
  by_cases lt : i < σ.length
  · unfold sl
    rw [List.getElem?_eq_getElem lt]
    exact List.set_getElem_self lt
  · exact List.set_eq_of_length_le (by omega)
section
variable {Ω : Obs} {A : Am} {G G' H H' : Hp} {σ : L2.St} {env : Env}
theorem Ok.clear (k : Ok Ω A G σ env H) (i : Nat) : Ok Ω A G σ (put env i .no) H := by
  have z := k.set0 i (o := sl σ i) (e := .no) rfl trivial
  rw [set_sl] at z
  exact z
theorem InnL.at : ∀ {ls : List Addr} {xss : List (List D)} {j : Nat} {l : Addr}, InnL Ω A G H ls xss → ls[j]? = some l → ∃ us xs, xss[j]? = some xs ∧ H l = some (.lst us) ∧ Reps Ω G us xs ∧ G l = none ∧ A.nw l
  | [], [], _, _, _, h => by simp at h
  | _ :: _, _ :: _, 0, _, h, e => by
    simp at e
    subst e
    obtain ⟨us, h1, r, h2⟩ := h.1
    exact ⟨us, _, rfl, h1, r, h2⟩
  | _ :: ls, _ :: xss, j + 1, _, h, e => by
    obtain ⟨us, xs, e1, q⟩ := InnL.at (j := j) h.2 (by simpa using e)
    exact ⟨us, xs, by simpa using e1, q⟩
  | [], _ :: _, _, _, h, _ => h.elim
  | _ :: _, [], _, _, h, _ => h.elim
/-- other things may change -/
theorem InnL.keep : ∀ {ls : List Addr} {xss : List (List D)}, InnL Ω A G H ls xss → (∀ l ∈ ls, ∀ us, H l = some (.lst us) → H' l = some (.lst us)) → InnL Ω A G H' ls xss
  | [], [], _, _ => trivial
  | _ :: _, _ :: _, h, f => by
    obtain ⟨us, h1, r, h2⟩ := h.1
    exact ⟨⟨us, f _ List.mem_cons_self us h1, r, h2⟩, InnL.keep h.2 fun l m => f l (List.mem_cons_of_mem _ m)⟩
  | [], _ :: _, h, _ => h.elim
  | _ :: _, [], h, _ => h.elim
theorem InnL.set : ∀ {ls : List Addr} {xss : List (List D)} {j : Nat} {l : Addr} {us : List V} {ys : List D}, InnL Ω A G H ls xss → ls.Nodup → ls[j]? = some l → Reps Ω G us ys → InnL Ω A G (upd H l (.lst us)) ls (xss.set j ys)
  | [], [], _, _, _, _, _, _, h, _ => by simp at h
  | l0 :: ls, _ :: xss, 0, _, us, _, h, nd, e, r => by
    simp at e
    subst e
    rw [List.nodup_cons] at nd
    obtain ⟨_, _, _, g, n⟩ := h.1
    exact ⟨⟨us, upd_same, r, g, n⟩, h.2.keep fun l m ws q => by rw [upd_ne fun z => nd.1 (by rw [← z]; exact m)]; exact q⟩
  | l0 :: ls, _ :: xss, j + 1, l, us, _, h, nd, e, r => by
    rw [List.nodup_cons] at nd
    have e' : ls[j]? = some l := by simpa using e
    obtain ⟨ws, h1, r1, h2⟩ := h.1
    exact ⟨⟨ws, by rw [upd_ne fun z => nd.1 (by rw [z]; exact List.mem_of_getElem? e')]; exact h1, r1, h2⟩, InnL.set h.2 nd.2 e' r⟩
  | [], _ :: _, _, _, _, _, h, _, _, _ => h.elim
  | _ :: _, [], _, _, _, _, h, _, _, _ => h.elim
theorem InnL.snoc {l : Addr} {us : List V} {ys : List D} (hl : H l = some (.lst us)) (r : Reps Ω G us ys) (g : G l = none) (n : A.nw l) : ∀ {ls : List Addr} {xss : List (List D)}, InnL Ω A G H ls xss → InnL Ω A G H (ls ++ [l]) (xss ++ [ys])
  | [], [], _ => ⟨⟨us, hl, r, g, n⟩, trivial⟩
  | _ :: _, _ :: _, h => ⟨h.1, InnL.snoc hl r g n h.2⟩
  | [], _ :: _, h => h.elim
  | _ :: _, [], h => h.elim
end
end KD
set_option Elab.async false
set_option linter.all false
set_option maxRecDepth 100000
set_option maxHeartbeats 3200000
namespace KW
open PySem PySem.Spec PyProof.Rows L2
end KW
set_option Elab.async false
set_option linter.all false
set_option maxRecDepth 100000
set_option maxHeartbeats 1000000
namespace KD
open PySem PySem.Spec PyProof.Rows L2 KW
end KD
set_option Elab.async false
set_option linter.all false
set_option maxRecDepth 100000
set_option maxHeartbeats 3200000
namespace KW
open PySem PySem.Spec PyProof.Rows L2
end KW
set_option Elab.async false
set_option linter.all false
set_option maxRecDepth 100000
set_option maxHeartbeats 3200000
namespace KW
open PySem PySem.Spec PyProof.Rows L2 SrtO TS
section
variable {prog : Program} {w : World} {A : Around} {E : Value → Shared → Prop} {s : Shared}
/-- a set is laid out and sorted -/
theorem sort_set {a : Addr} {es : Array (Int × Value)} {ep : Nat} {t : SetTable} {ltv : Value → Value → Bool} {Q : Value → Shared → Prop} (O : Swo ltv) (hh : A.handled = none) (ha : SetAt s.heap a es ep t) (hf : t.fits es.size = true) (hsz : es.size < scanBound) (r : Ris t.place.toList)
    (hl : w.params.followText "set-order" = true ∨ t.led = true)
    (can : ∀ vs : List Value, vs.Perm (es.toList.map (·.2)) → 2 ≤ vs.length → ∀ (s1 : Shared) (b : Addr), s1.heap.get? b = some (seqObj "list" vs.toArray 0) → (∀ c o, s.heap.get? c = some o → c ≠ b ∧ s1.heap.get? c = some o) → SortableO prog w A.in1.in1 s1 b vs ltv)
    (go : ∀ (vs : List Value) (s2 : Shared) (d : Addr) (out : List Value), vs.Perm (es.toList.map (·.2)) → Srtd ltv out → Stb ltv out vs → (∀ b o, s.heap.get? b = some o → s2.heap.get? b = some o) → s2.gens = s.gens → s2.os = s.os → s.heap.objs.size ≤ d → (∃ n, s2.heap.get? d = some (seqObj "list" out.toArray n)) → Q (.ref d) s2) :
    wpAny (model prog w) A (call (.builtin "sorted") [.ref a]) Q E s := by
  refine Calls.call_function_entry kind_sorted plain_sorted entry_sorted (args_sorted1 _) ?_
  unfold Builtin.«sorted»
  refine wpAny_bind (m := checkCount "sorted" 1 1 _) (wpAny_pure ?_)
  refine wpAny_bind (collect_set (A := A.in1) hh ha hf hsz r hl fun s1 vs k1 hz g1 o1 pm => ?_)
  have few : vs.length ≤ sizeLine := by
    rw [pm.length_eq, List.length_map, Array.length_toList, sizeLine_eq]
    unfold scanBound at hsz
    omega
  refine wpAny_bind (wpAny_newList ?_ few)
  have here : (s1.heap.push (seqObj "list" vs.toArray 0)).get? s1.heap.objs.size = some (seqObj "list" vs.toArray 0) := Heap.get?_push_size _ rfl
  have keep : ∀ b o, s.heap.get? b = some o → b ≠ s1.heap.objs.size ∧ (s1.heap.push (seqObj "list" vs.toArray 0)).get? b = some o := fun b o q => ⟨Nat.ne_of_lt (Heap.lt_size (k1 b o q)), Heap.get?_push_of_some _ (k1 b o q)⟩
  refine wpAny_bind (wpAny_holding (wpAny_call_entry slot_list_sort ⟨_, here, rfl⟩ entry_list_sort (list_sort_ord O here few (fun h2 => can vs pm h2 { s1 with heap := s1.heap.push (seqObj "list" vs.toArray 0) } _ here keep) fun out hs hb => ⟨_, rfl, ?_⟩) (args_list_sort _)))
  obtain ⟨c, hc2⟩ := sortedHeap_at (vs := vs) (out := out.toArray) here
  refine wpAny_pure ⟨_, rfl, go vs _ s1.heap.objs.size out pm hs hb (fun b u e => ?_) g1 o1 hz ⟨c, hc2⟩⟩
  have q := k1 b u e
  have hlt := Heap.lt_size q
  show (sortedHeap (s1.heap.push (seqObj "list" vs.toArray 0)) s1.heap.objs.size vs out.toArray).get? b = some u
  rw [sortedHeap_old (Nat.ne_of_lt hlt) (by rw [Heap.size_push]; exact Nat.lt_succ_of_lt hlt)]
  exact Heap.get?_push_of_some _ q
end
section
variable {X : Cx}
def adrAt : Value → Addr
  | .ref a => a
  | _ => 0
end
end KW
set_option Elab.async false
set_option linter.all false
set_option maxRecDepth 100000
set_option maxHeartbeats 1000000
namespace KD
open PySem PySem.Spec PyProof.Rows L2 KW
section
variable {Ω : Obs} {A : Am} {E : XK} {K : PySem.W.Frag} {P : Program} {w : World} {ta tb tc td : TE} {ma mb mc md : M D}
theorem hu8_of {A : Around} {k : Nat} (hr : Room k A) : A.units + 8 < cLine := Nat.lt_of_le_of_lt (Nat.add_le_add_left (by decide : 8 ≤ 64) _) hr.units
theorem hu9_of {A : Around} {k : Nat} (hr : Room k A) : A.in1.units + 8 < cLine := by
  rw [Around.in1_units]
  have := hr.units
  omega
def augI (i : Nat) (f : Int → Int → Int) (m : M D) : MS := ⟨fun e env Ex => ∃ a : Int, get env i = .d (.int a) ∧ m.wp env (fun d => ∃ b : Int, d = .int b ∧ e.nx (put env i (.d (.int (f a b))))) Ex,
  fun h _ _ _ _ ⟨a, x, q⟩ => ⟨a, x, m.mono (fun d ⟨b, y, q⟩ => ⟨b, y, h _ q⟩) q⟩⟩
theorem ds_aug {i : Nat} {f : Int → Int → Int} (h : Den Ω A E ta ma) : DenS Ω A E (tAug i ta (ipI f)) (augI i f ma) := fun G σ env H e ed Ex k fE l ⟨a, ea, q⟩ => by
  obtain ⟨v, hv, r⟩ := k.d ea
  cases r
  refine ⟨_, hv, h G σ env H _ Ex k fE.e (ma.mono (fun d q G1 v1 H1 t1 r1 => ?_) q)⟩
  obtain ⟨b, rfl, q⟩ := q
  cases r1
  exact ⟨a, b, rfl, rfl, l.nx G1 _ _ _ t1.sub ((k.tr t1).set i (.int _)) q⟩
def mLenOwn (i : Nat) : M D := ⟨fun env Q _ => ∃ xs, get env i = .own xs ∧ Q (.int ((xs.length : Nat) : Int)), fun h _ ⟨xs, a, q⟩ => ⟨xs, a, h _ q⟩⟩
theorem dn_lenOwn {i : Nat} : Den Ω A E (tCB (fun xs H Q => ∃ p ys, xs = [.ref p] ∧ (SqL K H p ys ∨ SqT K H p ys) ∧ Q (.int ys.length) H) (tCons (tVar i) tNil)) (mLenOwn i) := fun G σ env H Q Ex k f ⟨xs, e, q⟩ => by
  obtain ⟨a, vs, hs, ha, r, g, nw⟩ := k.own e
  refine ⟨_, hs, a, vs, rfl, .inl (SqL.of ha), ?_⟩
  rw [r.length]
  exact q G _ H (.refl k.fr) (.int _)
end
end KD
set_option Elab.async false
set_option maxRecDepth 100000
set_option maxHeartbeats 2000000
namespace KW
open PySem PySem.Spec PyProof.Rows L2
end KW
set_option Elab.async false
set_option maxRecDepth 100000
set_option maxHeartbeats 2000000
namespace KW
open PySem PySem.Spec PyProof.Rows L2 LamX
end KW
set_option Elab.async false
set_option maxRecDepth 100000
set_option maxHeartbeats 2000000
namespace KW
open PySem PySem.Spec PyProof.Rows L2
end KW
set_option Elab.async false
set_option maxRecDepth 100000
set_option maxHeartbeats 2000000
namespace KW
open PySem PySem.Spec PyProof.Rows L2 L2H
end KW
set_option Elab.async false
set_option maxRecDepth 100000
set_option maxHeartbeats 2000000
namespace KW
open PySem PySem.Spec PyProof.Rows L2 HotX
section
variable {prog : Program} {w : World} {A : Around} {E : Value → Shared → Prop} {st : Shared}
theorem HotAt.keep {x1 : Addr} {h h' : Heap} (hot : HotAt A x1 h) (k : ∀ o, h.get? x1 = some o → h'.get? x1 = some o) : HotAt A x1 h' := by
  obtain ⟨hh, o1, vs1, there, d1, c1⟩ := hot
  exact ⟨hh, o1, vs1, k _ there, d1, c1⟩
end
end KW
set_option Elab.async false
set_option maxRecDepth 100000
set_option maxHeartbeats 2000000
namespace KW
open PySem PySem.Spec PyProof.Rows L2 HotX L2H
/-- the handled exception stood where the context began, out of its reach -/
def HotB (Y : Cx) : Prop := ∃ (x1 : Addr) (ob : Obj) (vs : Array Value), Y.A.handled = some (.ref x1) ∧ Y.s_0.heap.get? x1 = some ob ∧ ob.data = .fields vs ∧ vs[2]? = some .none ∧ Y.H_0 x1 = none ∧ x1 ∉ Y.fs ∧ x1 ∉ Y.ex
theorem HotB.at {Y : Cx} {pins : List (Addr × Obj)} {σ : L2.St} {H : Hp} {st : Shared} (h : HotB Y) (I : Inv Y pins σ H st) : ∃ x1, HotAt Y.A x1 st.heap ∧ x1 ∉ Y.ex := by
  obtain ⟨x1, ob, vs, hh, there, hd, hc, hn, nf, ne⟩ := h
  exact ⟨x1, ⟨hh, ob, vs, I.base.keep x1 ob there hn nf ne, hd, hc⟩, ne⟩
end KW
set_option Elab.async false
set_option maxRecDepth 100000
set_option maxHeartbeats 2000000
namespace KW
open PySem PySem.Spec PyProof.Rows L2 L2H HotX
end KW
set_option Elab.async false
set_option maxRecDepth 100000
set_option maxHeartbeats 2000000
namespace KW
open PySem PySem.Spec PyProof.Rows L2 L2H LamX
end KW
set_option Elab.async false
set_option maxRecDepth 100000
set_option maxHeartbeats 1000000
namespace KW
open PySem PySem.Spec PyProof.Rows L2 LamX
/-- all but lists stays -/
def NL (H H' : Hp) : Prop := ∀ a o, (∀ xs, o ≠ .lst xs) → H a = some o → H' a = some o
/-- all but lists and tables stays -/
def NT (H H' : Hp) : Prop := ∀ a o, (∀ xs, o ≠ .lst xs) → (∀ ps, o ≠ .tbl ps) → H a = some o → H' a = some o
theorem NL.nt {H H' : Hp} (m : NL H H') : NT H H' := fun a o h _ e => m a o h e
theorem NT.of {H H' : Hp} (e : ExtN H H') : NT H H' := fun a o _ h q => e a o q h
theorem NL.same {H H' : Hp} (s : Same H H') : NL H H' := fun a o _ h => s a o h
theorem NL.grow {b : Addr} {H H' : Hp} {xs : List V} (hb : H b = some (.lst xs)) (g : Grow b H H') : NL H H' := fun a o h e => g a o (ne_of e hb (h xs)) e
theorem NL.put {p : Addr} {H : Hp} {xs : List V} {o : HO} (hp : H p = some (.lst xs)) : NL H (upd H p o) := fun a u h e => by
  rw [upd_ne (ne_of e hp (h xs))]
  exact e
theorem NT.kp {H H' : Hp} (m : NT H H') : Kp H H' := fun a o f e => m a o (fun _ => f.ne) (fun ps z => by subst z; exact f) e
theorem tabs_nl {T : List (Addr × Str)} {H H' : Hp} (m : NL H H') (t : Tabs T H) : Tabs T H' := fun p hp => by
  obtain ⟨ps, h1, h2, h3⟩ := t p hp
  refine ⟨ps, m _ _ (fun _ => by intro z; cases z) h1, h2, fun pos cv hc => ?_⟩
  obtain ⟨c, e, h⟩ := h3 pos cv hc
  exact ⟨c, e, m _ _ (fun xs z => by unfold CodeO at z; cases z) h⟩
section
variable {b l : Addr} {ms : List Int} {H H' : Hp}
theorem bag_ext (B : BagAt b l ms H) (e : ExtN H H') : BagAt b l ms H' := by
  obtain ⟨⟨i, r, sd, c, h, hi⟩, hl, nbl⟩ := B
  exact ⟨⟨i, r, sd, c, e _ _ h (fun _ => by intro z; cases z), hi⟩, e _ _ hl (fun _ => by intro z; cases z), nbl⟩
end
theorem webAt_nt {C : Addr} {H H' : Hp} {x : Addr} {n : Nat} {ps : List (Nat × Nat)} (m : NT H H') (h : WebAt C H x n ps) : WebAt C H' x n ps := by
  obtain ⟨dx, q, lv, en, as, ls, es, h1, h2⟩ := id h
  exact h.to m.kp ((m _ _ (fun _ => by intro z; cases z) (fun _ => by intro z; cases z) h1).trans h1.symm)
structure CoreT (C b l t x : Addr) (T : List (Addr × Str)) (ms : List Int) (n : Nat) (ps : List (Nat × Nat)) (H : Hp) : Prop where
  bag : BagAt b l ms H
  tabs : Tabs T H
  wt : WebT H t n ps
  wa : WebAt C H x n ps
section
variable {C b l t x : Addr} {T : List (Addr × Str)} {ms : List Int} {n : Nat} {ps : List (Nat × Nat)} {H H' : Hp}
theorem CoreT.nt (c : CoreT C b l t x T ms n ps H) (m : NT H H') (B : BagAt b l ms H') (T' : Tabs T H') : CoreT C b l t x T ms n ps H' := ⟨B, T', c.wt.kp m.kp, webAt_nt m c.wa⟩
theorem CoreT.nl (c : CoreT C b l t x T ms n ps H) (m : NL H H') (B : BagAt b l ms H') : CoreT C b l t x T ms n ps H' := c.nt m.nt B (tabs_nl m c.tabs)
theorem CoreT.ext (c : CoreT C b l t x T ms n ps H) (e : ExtN H H') (T' : Tabs T H') : CoreT C b l t x T ms n ps H' := c.nt (.of e) (bag_ext c.bag e) T'
theorem CoreT.same (c : CoreT C b l t x T ms n ps H) (s : Same H H') : CoreT C b l t x T ms n ps H' := c.nl (.same s) (bag_ext c.bag (ExtN.of s))
end
end KW
set_option Elab.async false
set_option maxRecDepth 100000
namespace KW
open PySem PySem.Spec PyProof.Rows L2
end KW
set_option Elab.async false
set_option linter.all false
set_option maxRecDepth 100000
set_option maxHeartbeats 2000000
namespace KD
open PySem PySem.Spec PyProof.Rows L2 KW
end KD
set_option Elab.async false
set_option maxRecDepth 100000
namespace KW
open PySem PySem.Spec PyProof.Rows L2
abbrev sSame : Stmt := topS 29
mutual
theorem dp_same {K : PySem.W.Frag} {H H' : Hp} (s : Same H H') : ∀ (d : PyData) (v : V), Dp K H v d → Dp K H' v d
  | .none, _, h => by cases h; exact .non
  | .bool b, _, h => by cases h; exact .bl b
  | .int i, _, h => by cases h; exact .int i
  | .str x, _, h => by cases h; exact .str x
  | .list ds, _, h => by
    cases h with
    | lst hs ha => exact .lst (s.seq hs) (dpa_same s ds _ ha)
  | .tuple ds, _, h => by
    cases h with
    | tup hs ha =>
      refine .tup ?_ (dpa_same s ds _ ha)
      rcases hs with (h | ⟨o, h⟩) | h
      · exact .inl (.inl (s _ _ h))
      · exact .inl (.inr ⟨o, s _ _ h⟩)
      · exact .inr h
  | .dict _, _, h => by cases h
theorem dpa_same {K : PySem.W.Frag} {H H' : Hp} (s : Same H H') : ∀ (ds : List PyData) (vs : List V), DpAll K H vs ds → DpAll K H' vs ds
  | [], _, h => by cases h; exact .nil
  | d :: ds, _, h => by
    cases h with
    | cons h1 h2 => exact .cons (dp_same s d _ h1) (dpa_same s ds _ h2)
end
theorem dpa_len {K : PySem.W.Frag} {H : Hp} : ∀ {ds : List PyData} {vs : List V}, DpAll K H vs ds → vs.length = ds.length
  | [], _, h => by cases h; rfl
  | d :: ds, _, h => by
    cases h with
    | cons h1 h2 => rw [List.length_cons, List.length_cons, dpa_len h2]
theorem dpa_at {K : PySem.W.Frag} {H : Hp} : ∀ {ds : List PyData} {vs : List V} {i : Nat} {v : V}, DpAll K H vs ds → vs[i]? = some v → ∃ d, ds[i]? = some d ∧ Dp K H v d
  | [], _, _, _, h, e => by cases h; simp at e
  | d :: ds, _, i, v, h, e => by
    cases h with
    | cons h1 h2 =>
      cases i with
      | zero =>
        simp at e
        subst e
        exact ⟨d, rfl, h1⟩
      | succ i =>
        obtain ⟨d', g1, g2⟩ := dpa_at (i := i) h2 (by simpa using e)
        exact ⟨d', by simpa using g1, g2⟩
theorem ty_list {K : PySem.W.Frag} {H : Hp} {a : Addr} {xs : List V} (h : SqL K H a xs) : TyX K H (.ref a) (.type "list") := by
  rcases h with (h | ⟨o, h⟩) | ⟨o, its, n, h1, h2, _⟩
  · exact .base (.lst h)
  · exact .base (.frz h)
  · exact .kList h1 h2
theorem ty_tup {K : PySem.W.Frag} {H : Hp} {a : Addr} {xs : List V} (h : SqT K H a xs) : TyX K H (.ref a) (.type "tuple") := by
  rcases h with (h | ⟨o, h⟩) | ⟨o, its, n, h1, h2, _⟩
  · exact .base (.tup h)
  · exact .fTuple h
  · exact .kTuple h1 h2
/-- numbers, texts, True, False, None -/
def Leaf (d : PyData) : Prop := (∃ i, d = .int i) ∨ (∃ z, d = .str z) ∨ (∃ b, d = .bool b) ∨ d = .none
/-- such, lists and tuples of such, at most k deep -/
def okT : Nat → PyData → Prop
  | 0, d => Leaf d
  | k + 1, d => Leaf d ∨ ∃ ds, (d = .list ds ∨ d = .tuple ds) ∧ ds.length ≤ 1000 ∧ ∀ x ∈ ds, okT k x
def spSame (K : PySem.W.Frag) (k : Nat) : Sp := fun vs H Q _ => ∃ (x y : V) (d : PyData), vs = [x, y] ∧ Dp K H x d ∧ Dp K H y d ∧ okT k d ∧ ∀ H' : Hp, Same H H' → Q (.bl true) H'
theorem walk_zipT {K : PySem.W.Frag} {a b : Addr} {xs ys : List V} (hn : xs.length = ys.length) : Walk (RZ.ItzT K a b) xs.length (fun H => SqT K H a xs ∧ SqT K H b ys) (YPair (fun i => xs[i]?) (fun i => ys[i]?)) := by
  refine ⟨fun i _ hi q => ?_, fun _ q => ⟨xs, ys, q.1, q.2, .inl (Nat.le_refl _)⟩, fun i H v H' _ q y => ?_⟩
  · have h2 : i < ys.length := by omega
    exact ⟨xs, ys, xs[i], ys[i], q.1, q.2, by simp [hi], by simp [h2]⟩
  · obtain ⟨T, x, z, h1, h2, h3, h4, h5⟩ := y
    exact ⟨T, x, z, h1, h2, h3, h4 xs q.1, h5 ys q.2⟩
structure SameM (mg : Str → Option Value) : Prop where
  isi : mg "isinstance" = none
  lst : mg "list" = none
  tup : mg "tuple" = none
  len : mg "len" = none
  all : mg "all" = none
  zip : mg "zip" = none
  bool : mg "bool" = none
  int : mg "int" = none
  str : mg "str" = none
theorem boot_isi : bootBuiltins "isinstance" = some (.builtin "isinstance") := by decide +kernel
theorem boot_all' : bootBuiltins "all" = some (.builtin "all") := by decide +kernel
theorem boot_bool' : bootBuiltins "bool" = some (.type "bool") := by decide +kernel
theorem boot_int' : bootBuiltins "int" = some (.type "int") := by decide +kernel
theorem boot_str' : bootBuiltins "str" = some (.type "str") := by decide +kernel
section
variable {P : Program} {w : World} {K : PySem.W.Frag} {mg : Str → Option Value} {base : Heap}
abbrev nSame : List Str := ["_law_found", "_law_due", "_law_a", "_law_b"]
theorem scSame : FnScope nSame ["_law_found", "_law_due"] (defScope sSame) := ⟨rfl, rfl, rfl, by decide +kernel, rfl, by decide +kernel, by decide +kernel⟩
theorem same_len {K : PySem.W.Frag} {k : Nat} : ∀ vs H Q E, spSame K k vs H Q E → vs.length = ["_law_found", "_law_due"].length := fun vs H Q E h => by
  obtain ⟨x, y, d, rfl, _⟩ := h
  rfl
/-- two things of one class, not None -/
theorem same_flat {f : Addr} (M : SameM mg) {v : V} {t : Value} {b1 b2 b3 : Bool} (ht : ∀ H : Hp, TyX K H v t) (k1 : PySem.W.kitOne K t (.type "list") = some false) (k2 : PySem.W.kitOne K t (.type "tuple") = some false) (kb : PySem.W.kitOne K t (.type "bool") = some b1) (ki : PySem.W.kitOne K t (.type "int") = some b2) (ks : PySem.W.kitOne K t (.type "str") = some b3) (nn : v ≠ .non) (cm : scal v v = true) (cdv : Value) (A : Around) (outer : List Env) (s : Shared) (H : Hp) (Q : VK) (E : XK) (k : ∀ H' : Hp, Same H H' → Q (.bl true) H') :
    ∃ t, PSs (cxOf CX0 P w K mg base nSame "_law_same" (defScope sSame) f cdv A outer s H E).nox (defBody sSame) t ∧ t { nx := fun _ H' => Q .non H', rt := Q } (L2.start nSame [v, v]) H := by
  refine ⟨_, pss_cons (ps_if (pt_val (pe_callB call_isiT (by rfl) M.isi boot_isi (pa_cons (pv 1) (pa_cons (pe_tup (pa_cons (pe_bltn (v := .ty "list") (by rfl) M.lst boot_list' rfl) (pa_cons (pe_bltn (v := .ty "tuple") (by rfl) M.tup boot_tuple' rfl) pa_nil))) pa_nil)))) pss_never pss_nil)
    (pss_cons (ps_if (PW.pt (pw_or (pt_cmpR op_isN (pv 1) pe_non (nomark _)) (pw_or1 (pt_cmpR op_isN (pv 0) pe_non (nomark _))))) pss_never pss_nil)
    (pss_cons (ps_if (PW.pt (pw_or (pt_cmpR op_ne (pe_callB call_isi (by rfl) M.isi boot_isi (pa_cons (pv 0) (pa_cons (pe_bltn (v := .ty "bool") (by rfl) M.bool boot_bool' rfl) pa_nil))) (pe_callB call_isi (by rfl) M.isi boot_isi (pa_cons (pv 1) (pa_cons (pe_bltn (v := .ty "bool") (by rfl) M.bool boot_bool' rfl) pa_nil))) (nomark _))
      (pw_or1 (pt_cmpR op_ne (pe_callB call_isi (by rfl) M.isi boot_isi (pa_cons (pv 0) (pa_cons (pe_bltn (v := .ty "int") (by rfl) M.int boot_int' rfl) pa_nil))) (pe_callB call_isi (by rfl) M.isi boot_isi (pa_cons (pv 1) (pa_cons (pe_bltn (v := .ty "int") (by rfl) M.int boot_int' rfl) pa_nil))) (nomark _))))) pss_never pss_nil)
    (pss_one (ps_ret (pe_and (pe_cmpR op_eq (pe_callB call_isi (by rfl) M.isi boot_isi (pa_cons (pv 0) (pa_cons (pe_bltn (v := .ty "str") (by rfl) M.str boot_str' rfl) pa_nil))) (pe_callB call_isi (by rfl) M.isi boot_isi (pa_cons (pv 1) (pa_cons (pe_bltn (v := .ty "str") (by rfl) M.str boot_str' rfl) pa_nil))) (nomark _))
      (pe_one (pe_cmpR op_eq (pv 0) (pv 1) (nomark _)))))))), ?_⟩
  refine ⟨_, rfl, by show 2 ≤ sizeLine; decide, fun T hT => ?_⟩
  have s1 : Same H (upd H T (.tup [.ty "list", .ty "tuple"])) := same_new (Same.refl H) hT
  generalize hH1 : upd H T (.tup [.ty "list", .ty "tuple"]) = H1 at s1
  have hT1 : H1 T = some (.tup [.ty "list", .ty "tuple"]) := by rw [← hH1]; exact upd_same
  have ty : TyX K H1 v t := ht H1
  have en : decide (v = V.non) = false := decide_eq_false nn
  have er : ∀ b : Bool, decide (V.bl b = V.bl b) = true := fun b => decide_eq_true rfl
  refine ⟨v, T, [.ty "list", .ty "tuple"], t, [.type "list", .type "tuple"], false, rfl, hT1, .cons (.ty _) (.cons (.ty _) .nil), ty, kitAny_cons k1 (fun _ => kitAny_cons k2 (fun _ => kitAny_nil) (fun z => nomatch z)) (fun z => nomatch z), false, rfl, iteF ?_⟩
  refine ⟨_, rfl, rfl, false, congrArg V.bl en, iteF ⟨_, rfl, rfl, false, congrArg V.bl en, iteF ?_⟩⟩
  have ne : ∀ b : Bool, (!decide (V.bl b = V.bl b)) = false := fun b => by rw [er]; rfl
  refine ⟨_, rfl, v, .ty "bool", t, .type "bool", b1, rfl, .ty _, ty, kb, _, rfl, v, .ty "bool", t, .type "bool", b1, rfl, .ty _, ty, kb, rfl, false, congrArg V.bl (ne b1), iteF ?_⟩
  refine ⟨_, rfl, v, .ty "int", t, .type "int", b2, rfl, .ty _, ty, ki, _, rfl, v, .ty "int", t, .type "int", b2, rfl, .ty _, ty, ki, rfl, false, congrArg V.bl (ne b2), iteF ?_⟩
  refine ⟨_, rfl, v, .ty "str", t, .type "str", b3, rfl, .ty _, ty, ks, _, rfl, v, .ty "str", t, .type "str", b3, rfl, .ty _, ty, ks, rfl, true, congrArg V.bl (er b3), iteT ?_⟩
  refine ⟨_, rfl, _, rfl, cm, ?_⟩
  have e : decide (v = v) = true := decide_eq_true rfl
  rw [e]
  exact k H1 s1
/-- None and None -/
theorem same_non {f : Addr} (M : SameM mg) (cdv : Value) (A : Around) (outer : List Env) (s : Shared) (H : Hp) (Q : VK) (E : XK) (k : ∀ H' : Hp, Same H H' → Q (.bl true) H') :
    ∃ t, PSs (cxOf CX0 P w K mg base nSame "_law_same" (defScope sSame) f cdv A outer s H E).nox (defBody sSame) t ∧ t { nx := fun _ H' => Q .non H', rt := Q } (L2.start nSame [.non, .non]) H := by
  refine ⟨_, pss_cons (ps_if (pt_val (pe_callB call_isiT (by rfl) M.isi boot_isi (pa_cons (pv 1) (pa_cons (pe_tup (pa_cons (pe_bltn (v := .ty "list") (by rfl) M.lst boot_list' rfl) (pa_cons (pe_bltn (v := .ty "tuple") (by rfl) M.tup boot_tuple' rfl) pa_nil))) pa_nil)))) pss_never pss_nil)
    (pss_cons (ps_if (PW.pt (pw_or (pt_cmpR op_isN (pv 1) pe_non (nomark _)) (pw_or1 (pt_cmpR op_isN (pv 0) pe_non (nomark _))))) (pss_one (ps_ret (pe_and (pe_cmpR op_isN (pv 0) pe_non (nomark _)) (pe_one (pe_cmpR op_isN (pv 1) pe_non (nomark _)))))) pss_nil) pss_never), ?_⟩
  refine ⟨_, rfl, by show 2 ≤ sizeLine; decide, fun T hT => ?_⟩
  have s1 : Same H (upd H T (.tup [.ty "list", .ty "tuple"])) := same_new (Same.refl H) hT
  generalize hH1 : upd H T (.tup [.ty "list", .ty "tuple"]) = H1 at s1
  have hT1 : H1 T = some (.tup [.ty "list", .ty "tuple"]) := by rw [← hH1]; exact upd_same
  have k1 : PySem.W.kitOne K (.type "NoneType") (.type "list") = some false := kit_ty (by decide +kernel)
  have k2 : PySem.W.kitOne K (.type "NoneType") (.type "tuple") = some false := kit_ty (by decide +kernel)
  refine ⟨.non, T, [.ty "list", .ty "tuple"], .type "NoneType", [.type "list", .type "tuple"], false, rfl, hT1, .cons (.ty _) (.cons (.ty _) .nil), .base .non, kitAny_cons k1 (fun _ => kitAny_cons k2 (fun _ => kitAny_nil) (fun z => nomatch z)) (fun z => nomatch z), false, rfl, iteF ?_⟩
  refine ⟨_, rfl, rfl, true, rfl, iteT (iteT ?_)⟩
  exact ⟨_, rfl, rfl, true, rfl, iteT ⟨_, rfl, rfl, k H1 s1⟩⟩
theorem same_leaf {f : Addr} (M : SameM mg) (cdv : Value) (A : Around) (outer : List Env) (s : Shared) (H : Hp) (Q : VK) (E : XK) {x y : V} {d : PyData} (hd : Leaf d) (hx : Dp K H x d) (hy : Dp K H y d) (k : ∀ H' : Hp, Same H H' → Q (.bl true) H') :
    ∃ t, PSs (cxOf CX0 P w K mg base nSame "_law_same" (defScope sSame) f cdv A outer s H E).nox (defBody sSame) t ∧ t { nx := fun _ H' => Q .non H', rt := Q } (L2.start nSame [x, y]) H := by
  rcases hd with ⟨i, rfl⟩ | ⟨z, rfl⟩ | ⟨b, rfl⟩ | rfl
  · cases hx
    cases hy
    exact same_flat M (t := .type "int") (b1 := false) (b2 := true) (b3 := false) (fun _ => .base (.int i)) (kit_ty (by decide +kernel)) (kit_ty (by decide +kernel)) (kit_ty (by decide +kernel)) (kit_ty (by decide +kernel)) (kit_ty (by decide +kernel)) (fun z => by cases z) rfl cdv A outer s H Q E k
  · cases hx
    cases hy
    exact same_flat M (t := .type "str") (b1 := false) (b2 := false) (b3 := true) (fun _ => .base (.str z)) (kit_ty (by decide +kernel)) (kit_ty (by decide +kernel)) (kit_ty (by decide +kernel)) (kit_ty (by decide +kernel)) (kit_ty (by decide +kernel)) (fun z => by cases z) rfl cdv A outer s H Q E k
  · cases hx
    cases hy
    exact same_flat M (t := .type "bool") (b1 := true) (b2 := true) (b3 := false) (fun _ => .base (.bl b)) (kit_ty (by decide +kernel)) (kit_ty (by decide +kernel)) (kit_ty (by decide +kernel)) (kit_ty (by decide +kernel)) (kit_ty (by decide +kernel)) (fun z => by cases z) rfl cdv A outer s H Q E k
  · cases hx
    cases hy
    exact same_non M cdv A outer s H Q E k
theorem ok_same {f : Addr} {fd : FuncData} (F : Fun K "_law_same" "_law_same" sSame f fd) (M : SameM mg) (bS : Binds K fd ["_law_found", "_law_due"] []) (mS : mg "_law_same" = some (.ref f)) (kS : PySem.W.keepIn K (.ref f) = true) : ∀ k : Nat, FnOk P w K mg base CX0 (k + 1) f fd ["_law_found", "_law_due"] (spSame K k)
  | 0 => by
    refine F.ok scSame same_len (fun cdv A outer s H vs Q E hr h => ?_)
    obtain ⟨x, y, d, rfl, hx, hy, hd, kk⟩ := h
    exact same_leaf M cdv A outer s H Q E hd hx hy kk
  | k + 1 => by
    have GS : FnOk P w K mg base CX0 (k + 1) f fd ["_law_found", "_law_due"] (spSame K k) := ok_same F M bS mS kS k
    refine F.ok scSame same_len (fun cdv A outer s H vs Q E hr h => ?_)
    obtain ⟨x, y, d, rfl, hx, hy, hd, kk⟩ := h
    rcases hd with hd | ⟨ds, hd, hl, hok⟩
    · exact same_leaf M cdv A outer s H Q E hd hx hy kk
    · refine ⟨_, pss_cons (ps_if (pt_val (pe_callB call_isiT (by rfl) M.isi boot_isi (pa_cons (pv 1) (pa_cons (pe_tup (pa_cons (pe_bltn (v := .ty "list") (by rfl) M.lst boot_list' rfl) (pa_cons (pe_bltn (v := .ty "tuple") (by rfl) M.tup boot_tuple' rfl) pa_nil))) pa_nil))))
        (pss_cons (ps_if (PW.pt (pw_or (pt_cmpR op_ne (pe_callB call_isi (by rfl) M.isi boot_isi (pa_cons (pv 0) (pa_cons (pe_bltn (v := .ty "list") (by rfl) M.lst boot_list' rfl) pa_nil))) (pe_callB call_isi (by rfl) M.isi boot_isi (pa_cons (pv 1) (pa_cons (pe_bltn (v := .ty "list") (by rfl) M.lst boot_list' rfl) pa_nil))) (nomark _))
          (pw_or1 (pt_cmpR op_ne (pe_callB call_isi (by rfl) M.isi boot_isi (pa_cons (pv 0) (pa_cons (pe_bltn (v := .ty "tuple") (by rfl) M.tup boot_tuple' rfl) pa_nil))) (pe_callB call_isi (by rfl) M.isi boot_isi (pa_cons (pv 1) (pa_cons (pe_bltn (v := .ty "tuple") (by rfl) M.tup boot_tuple' rfl) pa_nil))) (nomark _))))) pss_never pss_nil)
        (pss_one (ps_ret (pe_and (pe_cmpR op_eq (pe_callB call_len_seq (by rfl) M.len PySem.boot_len (pa_cons (pv 0) pa_nil)) (pe_callB call_len_seq (by rfl) M.len PySem.boot_len (pa_cons (pv 1) pa_nil)) (nomark _))
          (pe_one (pe_callB (cr_all rfl) (by rfl) M.all boot_all' (pa_cons
            (pe_lc (own := [("_law_a", 2), ("_law_b", 3)]) (g := gTup K 2 (gCons (gName 2) (gCons (gName 3) gNil))) (tt := tYes) rfl scSame.nd (RZ.pi_zipA (by rfl) M.zip (pa_cons (pv 0) (pa_cons (pv 1) pa_nil)))
              (blkOk_by (own := [("_law_a", 2), ("_law_b", 3)]) (N := nSame) (sc := defScope sSame) (by decide +kernel)) (fun _ _ _ _ _ => pg_tup rfl (pgs_cons (pg_name (i := 2) scSame.nd rfl (Or.inl rfl)) (pgs_cons (pg_name (i := 3) scSame.nd rfl (Or.inl rfl)) pgs_nil)))
              (fun _ _ _ _ _ => pts_nil) (fun _ _ _ _ _ => pe_call GS hr rfl mS kS bS .nil pass0 (pa_cons (pv 2) (pa_cons (pv 3) pa_nil)))) pa_nil))))))) pss_nil) pss_never, ?_⟩
      refine ⟨_, rfl, by show 2 ≤ sizeLine; decide, fun T hT => ?_⟩
      have s1 : Same H (upd H T (.tup [.ty "list", .ty "tuple"])) := same_new (Same.refl H) hT
      generalize hH1 : upd H T (.tup [.ty "list", .ty "tuple"]) = H1 at s1
      have hT1 : H1 T = some (.tup [.ty "list", .ty "tuple"]) := by rw [← hH1]; exact upd_same
      have hx1 := dp_same s1 _ _ hx
      have hy1 := dp_same s1 _ _ hy
      have kll : PySem.W.kitOne K (.type "list") (.type "list") = some true := kit_ty (by decide +kernel)
      have klt : PySem.W.kitOne K (.type "list") (.type "tuple") = some false := kit_ty (by decide +kernel)
      have ktl : PySem.W.kitOne K (.type "tuple") (.type "list") = some false := kit_ty (by decide +kernel)
      have ktt : PySem.W.kitOne K (.type "tuple") (.type "tuple") = some true := kit_ty (by decide +kernel)
      have turn : ∀ {D : Addr} {xs ys : List V} {i : Nat} {x y : V} {H' H2 : Hp} {TT : Addr}, H1 D = none → DpAll K H1 xs ds → DpAll K H1 ys ds → xs[i]? = some x → ys[i]? = some y → Same H1 H2 → (∀ z, z ∈ ds → okT k z) →
          ∃ d, Dp K H2 x d ∧ Dp K H2 y d ∧ okT k d := fun {D xs ys i x y H' H2 TT} _ h1 h2 e1 e2 s2 ho => by
        obtain ⟨d1, g1, g2⟩ := dpa_at h1 e1
        obtain ⟨d2, g3, g4⟩ := dpa_at h2 e2
        rw [g1] at g3
        cases g3
        exact ⟨d1, dp_same s2 _ _ g2, dp_same s2 _ _ g4, ho d1 (List.mem_of_getElem? g1)⟩
      have allT : ∀ bs : List Bool, (∀ b ∈ bs, b = true) → bs.all id = true := fun bs hb => List.all_eq_true.mpr hb
      rcases hd with rfl | rfl
      · cases hx1 with
        | @lst a xs _ sx ax =>
          cases hy1 with
          | @lst b ys _ sy ay =>
            have lx := dpa_len ax
            have ly := dpa_len ay
            refine ⟨.ref b, T, [.ty "list", .ty "tuple"], .type "list", [.type "list", .type "tuple"], true, rfl, hT1, .cons (.ty _) (.cons (.ty _) .nil), ty_list sy, kitAny_cons kll (fun z => nomatch z) (fun _ => rfl), true, rfl, iteT ?_⟩
            refine ⟨_, rfl, .ref a, .ty "list", .type "list", .type "list", true, rfl, .ty _, ty_list sx, kll, _, rfl, .ref b, .ty "list", .type "list", .type "list", true, rfl, .ty _, ty_list sy, kll, rfl, _, rfl, iteF ?_⟩
            refine ⟨_, rfl, .ref a, .ty "tuple", .type "list", .type "tuple", false, rfl, .ty _, ty_list sx, klt, _, rfl, .ref b, .ty "tuple", .type "list", .type "tuple", false, rfl, .ty _, ty_list sy, klt, rfl, _, rfl, iteF ?_⟩
            have el : decide (V.int ((xs.length : Nat) : Int) = V.int ((ys.length : Nat) : Int)) = true := decide_eq_true (by rw [lx, ly])
            refine ⟨_, rfl, a, _, rfl, .inl sx, _, rfl, b, _, rfl, .inl sy, rfl, true, congrArg V.bl el, iteT ?_⟩
            refine ⟨_, rfl, _, rfl, a, b, xs, ys, rfl, .inl ⟨sx, sy, fun D hD => ?_⟩⟩
            refine lc_it (walk_zip (K := K) (a := a) (b := b) (xs := xs) (ys := ys) rfl) (fun i H' => ∃ bs : List Bool, H' D = some (.lst (bs.map V.bl)) ∧ bs.length = i ∧ (∀ z ∈ bs, z = true) ∧ Same H1 H')
              ⟨[], upd_same, rfl, fun z hz => absurd hz (by simp), same_new (Same.refl H1) hD⟩ (fun i H' _ ⟨_, _, _, _, s'⟩ => ⟨s'.seq sx, s'.seq sy⟩) ?_ ?_
            · rintro i v H' H2 hi ⟨bs, hB, bl, hb, s'⟩ ⟨U, x1, y1, rfl, hU, rfl, e1, e2⟩
              have s2 : Same H1 (upd H' U (.tup [x1, y1])) := same_new s' hU
              obtain ⟨d1, g1, g2, g3⟩ := turn (H' := H') (TT := U) hD ax ay e1 e2 s2 hok
              have hB2 : upd H' U (.tup [x1, y1]) D = some (.lst (bs.map V.bl)) := by rw [upd_ne (ne_of_none hB hU)]; exact hB
              refine ⟨U, _, rfl, SqT.of upd_same, rfl, _, _, rfl, _, _, rfl, rfl, rfl, _, rfl, _, rfl, x1, y1, d1, rfl, g1, g2, g3, fun H3 s3 => ?_⟩
              refine ⟨_, s3 _ _ hB2, by rw [List.length_map, sizeLine_eq]; omega, bs ++ [true], by rw [upd_same, List.map_append]; rfl, by rw [List.length_append, bl]; rfl, fun z hz => ?_, same_put (s2.trans s3) hD⟩
              rcases List.mem_append.mp hz with q | q
              · exact hb z q
              · simpa using q
            · rintro H' ⟨bs, hB, bl, hb, s'⟩
              refine ⟨D, bs, rfl, SqL.of hB, ?_⟩
              rw [allT bs hb]
              exact kk H' (s1.trans s')
      · cases hx1 with
        | @tup a xs _ sx ax =>
          cases hy1 with
          | @tup b ys _ sy ay =>
            have lx := dpa_len ax
            have ly := dpa_len ay
            have st : ∀ {H' : Hp} {c : Addr} {zs : List V}, Same H1 H' → SqT K H1 c zs → SqT K H' c zs := fun {H' c zs} s' h => by
              rcases h with (h | ⟨o, h⟩) | h
              · exact .inl (.inl (s' _ _ h))
              · exact .inl (.inr ⟨o, s' _ _ h⟩)
              · exact .inr h
            refine ⟨.ref b, T, [.ty "list", .ty "tuple"], .type "tuple", [.type "list", .type "tuple"], true, rfl, hT1, .cons (.ty _) (.cons (.ty _) .nil), ty_tup sy, kitAny_cons ktl (fun _ => kitAny_cons ktt (fun z => nomatch z) (fun _ => rfl)) (fun z => nomatch z), true, rfl, iteT ?_⟩
            refine ⟨_, rfl, .ref a, .ty "list", .type "tuple", .type "list", false, rfl, .ty _, ty_tup sx, ktl, _, rfl, .ref b, .ty "list", .type "tuple", .type "list", false, rfl, .ty _, ty_tup sy, ktl, rfl, _, rfl, iteF ?_⟩
            refine ⟨_, rfl, .ref a, .ty "tuple", .type "tuple", .type "tuple", true, rfl, .ty _, ty_tup sx, ktt, _, rfl, .ref b, .ty "tuple", .type "tuple", .type "tuple", true, rfl, .ty _, ty_tup sy, ktt, rfl, _, rfl, iteF ?_⟩
            have el : decide (V.int ((xs.length : Nat) : Int) = V.int ((ys.length : Nat) : Int)) = true := decide_eq_true (by rw [lx, ly])
            refine ⟨_, rfl, a, _, rfl, .inr sx, _, rfl, b, _, rfl, .inr sy, rfl, true, congrArg V.bl el, iteT ?_⟩
            refine ⟨_, rfl, _, rfl, a, b, xs, ys, rfl, .inr ⟨sx, sy, fun D hD => ?_⟩⟩
            refine lc_it (walk_zipT (K := K) (a := a) (b := b) (xs := xs) (ys := ys) (by omega)) (fun i H' => ∃ bs : List Bool, H' D = some (.lst (bs.map V.bl)) ∧ bs.length = i ∧ (∀ z ∈ bs, z = true) ∧ Same H1 H')
              ⟨[], upd_same, rfl, fun z hz => absurd hz (by simp), same_new (Same.refl H1) hD⟩ (fun i H' _ ⟨_, _, _, _, s'⟩ => ⟨st s' sx, st s' sy⟩) ?_ ?_
            · rintro i v H' H2 hi ⟨bs, hB, bl, hb, s'⟩ ⟨U, x1, y1, rfl, hU, rfl, e1, e2⟩
              have s2 : Same H1 (upd H' U (.tup [x1, y1])) := same_new s' hU
              obtain ⟨d1, g1, g2, g3⟩ := turn (H' := H') (TT := U) hD ax ay e1 e2 s2 hok
              have hB2 : upd H' U (.tup [x1, y1]) D = some (.lst (bs.map V.bl)) := by rw [upd_ne (ne_of_none hB hU)]; exact hB
              refine ⟨U, _, rfl, SqT.of upd_same, rfl, _, _, rfl, _, _, rfl, rfl, rfl, _, rfl, _, rfl, x1, y1, d1, rfl, g1, g2, g3, fun H3 s3 => ?_⟩
              refine ⟨_, s3 _ _ hB2, by rw [List.length_map, sizeLine_eq]; omega, bs ++ [true], by rw [upd_same, List.map_append]; rfl, by rw [List.length_append, bl]; rfl, fun z hz => ?_, same_put (s2.trans s3) hD⟩
              rcases List.mem_append.mp hz with q | q
              · exact hb z q
              · simpa using q
            · rintro H' ⟨bs, hB, bl, hb, s'⟩
              refine ⟨D, bs, rfl, SqL.of hB, ?_⟩
              rw [allT bs hb]
              exact kk H' (s1.trans s')
end
end KW
set_option Elab.async false
set_option linter.all false
set_option maxRecDepth 100000
set_option maxHeartbeats 2000000
namespace KD
open PySem PySem.Spec PyProof.Rows L2 KW
def unD : D → Nat
  | .int i => i.toNat
  | _ => 0
theorem perm_natD {ys : List D} {l : List Nat} (p : ys.Perm (l.map natD)) : ∃ rs : List Nat, ys = rs.map natD ∧ rs.Perm l := by
  have e : (l.map natD).map unD = l := by
    rw [List.map_map]
    conv => rhs; rw [← List.map_id l]
    exact List.map_congr_left fun a _ => rfl
  refine ⟨ys.map unD, ?_, ?_⟩
  · rw [List.map_map]
    conv => lhs; rw [← List.map_id ys]
    apply List.map_congr_left
    intro y hy
    obtain ⟨a, _, rfl⟩ := List.mem_map.mp (p.mem_iff.mp hy)
    rfl
  · have z := p.map unD
    rwa [e] at z
theorem idxs_filt (r : Nat) : ∀ (l : List Nat) (k : Nat), idxs l r k = ((List.range l.length).filter fun x => decide (l[x]? = some r)).map fun x => k + x
  | [], _ => rfl
  | p :: l, k => by
    unfold idxs
    rw [idxs_filt r l (k + 1), List.length_cons, List.range_succ_eq_map, List.filter_cons, List.filter_map]
    have e : (List.map Nat.succ ((List.range l.length).filter ((fun x => decide ((p :: l)[x]? = some r)) ∘ Nat.succ))).map (fun x => k + x) = ((List.range l.length).filter fun x => decide (l[x]? = some r)).map fun x => k + 1 + x := by
      rw [List.map_map]
      apply List.map_congr_left
      intro x _
      show k + (x + 1) = k + 1 + x
      omega
    by_cases h : p = r
    · rw [if_pos h, if_pos (by rw [h]; simp), List.map_cons, e]
      rfl
    · rw [if_neg h, if_neg (by simp [h]), e]
theorem getD_some {ps : List (Nat × Nat)} {x : Nat} (h : x < ps.length) : ps[x]? = some (ps.getD x (0, 0)) := by
  rw [List.getD_eq_getElem?_getD, List.getElem?_eq_getElem h]
  rfl
theorem idx_get : ∀ {l : List Nat} {x : Nat}, x ∈ l → l[l.idxOf x]? = some x ∧ ∀ m : Nat, m < l.idxOf x → l[m]? ≠ some x
  | y :: l, x, h => by
    rw [List.idxOf_cons]
    by_cases e : y = x
    · rw [show (y == x) = true from beq_iff_eq.mpr e]
      exact ⟨congrArg some e, fun m hm => absurd hm (Nat.not_lt_zero _)⟩
    · rw [show (y == x) = false from beq_eq_false_iff_ne.mpr e]
      have hx : x ∈ l := by
        cases h with
        | head => exact absurd rfl e
        | tail _ h => exact h
      obtain ⟨h1, h2⟩ := idx_get hx
      refine ⟨h1, fun m hm => ?_⟩
      cases m with
      | zero => exact fun z => e (Option.some.inj z)
      | succ m => exact h2 m (Nat.lt_of_succ_lt_succ hm)
theorem idx_at {l : List Nat} {k y : Nat} (nd : l.Nodup) (h : l[k]? = some y) : l.idxOf y = k := by
  obtain ⟨h1, h2⟩ := idx_get (List.mem_of_getElem? h)
  have l1 := (List.getElem?_eq_some_iff.mp h)
  have l2 := (List.getElem?_eq_some_iff.mp h1)
  obtain ⟨a1, e1⟩ := l1
  obtain ⟨a2, e2⟩ := l2
  exact (List.getElem_inj nd).mp (e2.trans e1.symm)
theorem idx_lt {l : List Nat} {x : Nat} (h : x ∈ l) : l.idxOf x < l.length := (List.getElem?_eq_some_iff.mp (idx_get h).1).1
/-- all keys are arrows -/
def KeyN (kvs : List (L2.Key × D)) : Prop := ∀ q ∈ kvs, ∃ x : Nat, q.1 = .inl (x : Int)
theorem KeyN.put {kvs : List (L2.Key × D)} {x : Nat} {v : D} (h : KeyN kvs) : KeyN (putD kvs (.inl (x : Int)) v) := fun q hq => by
  unfold putD at hq
  split at hq
  · obtain ⟨p, hp, rfl⟩ := List.mem_map.mp hq
    split
    · exact h p hp
    · exact h p hp
  · rcases List.mem_append.mp hq with h1 | h1
    · exact h q h1
    · rw [List.mem_singleton.mp h1]
      exact ⟨x, rfl⟩
def mfSame : MF where
  n := 2
  wp := fun ds Q _ => ∃ x y : D, ds = [x, y] ∧ pl 60 x ∧ pl 60 y ∧ py x = py y ∧ okT 3 (py x) ∧ Q (.bl true)
  mono := fun h _ ⟨x, y, a, b, c, d, e, q⟩ => ⟨x, y, a, b, c, d, e, h _ q⟩
  len := fun ⟨x, y, a, _⟩ => by rw [a]; rfl
section
variable {P : Program} {w : World} {K : PySem.W.Frag} {mg : Str → Option Value} {base : Heap} {Ω : Obs} {k : Nat} {f C CR : Addr} {fd : FuncData} {ps : List Str} {E E' : XK}
theorem d_same (F : FnOk P w K mg base CX0 k f fd ps (spSame K 3)) : FnOk P w K mg base CX0 k f fd ps (spD Ω mfSame) := F.imp fun vs H Q E h => by
  obtain ⟨G, ds, s, r, x, y, rfl, fx, fy, e, ok, q⟩ := h
  cases r with
  | cons ra r =>
    obtain ⟨v, rfl, rv⟩ := r.one
    exact ⟨_, _, _, rfl, ra.dp s (pl_facts 60 x fx).1, e ▸ rv.dp s (pl_facts 60 y fy).1, ok, fun H' s' => q G _ H' s' (Same.refl _) (s.trans s') (New.refl _ _) (.bl _)⟩
end
section
variable {P : Program} {w : World} {K : PySem.W.Frag} {mg : Str → Option Value} {base : Heap} {Ω : Obs} {C CBadRoom CBadFold : Addr}
abbrev sLawNaming : Stmt := topS 34
abbrev nLawNaming : List Str := ["_law_bag_here", "_law_w"]
theorem scLawNaming : FnScope nLawNaming ["_law_bag_here", "_law_w"] (defScope sLawNaming) := ⟨rfl, rfl, rfl, by decide +kernel, rfl, by decide +kernel, by decide +kernel⟩
end
end KD
set_option Elab.async false
set_option linter.all false
set_option maxRecDepth 100000
namespace KC
open KD
/-- what lies ahead of a, by the names f -/
def key (begs : Nat → List Nat) (f : Nat → Nat) (a : Nat) : List Int := isort ((begs a).map fun x => (f x : Int))
section
variable {n : Nat} {begs : Nat → List Nat} {f g m : Nat → Nat}
/-- one round: the first room with the same ahead -/
def step (n : Nat) (begs : Nat → List Nat) (f : Nat → Nat) (x : Nat) : Nat := ((List.range n).find? fun y => decide (key begs f y = key begs f x)).getD 0
end
end KC
set_option Elab.async false
set_option linter.all false
set_option maxRecDepth 100000
namespace KC
open KD KW
/-- how many arrows from i to j -/
def mu (ps : List (Nat × Nat)) (i j : Nat) : Nat := sm ps fun p => if p = (i, j) then 1 else 0
theorem mu_count (ps : List (Nat × Nat)) (i j : Nat) : mu ps i j = ps.count (i, j) := by
  unfold mu
  induction ps with
  | nil => rfl
  | cons p ps ih =>
    rw [sm_cons, ih, List.count_cons]
    by_cases h : p = (i, j)
    · rw [if_pos h, if_pos (by rw [h]; exact beq_self_eq_true _)]
      omega
    · rw [if_neg h, if_neg (by intro z; exact h (eq_of_beq z))]
      omega
def In2 (n : Nat) (ps : List (Nat × Nat)) : Prop := ∀ p ∈ ps, p.1 < n ∧ p.2 < n
theorem sm_oneR (f : Nat → Nat) {i n : Nat} (h : i < n) : sm (List.range n) (fun j => if i = j then f j else 0) = f i := by
  have e : (fun j => if i = j then f j else 0) = fun j => if j = i then f j else 0 := funext fun j => by
    by_cases z : i = j
    · rw [if_pos z, if_pos z.symm]
    · rw [if_neg z, if_neg fun y => z y.symm]
  rw [e, sm_one, if_pos h]
/-- a sum by classes -/
theorem sm_class {n m : Nat} {π : Nat → Nat} (h : ∀ x, x < n → π x < m) (f : Nat → Nat → Nat) : sm (List.range n) (fun x => f x (π x)) = sm (List.range m) fun Z => sm (List.range n) fun x => if π x = Z then f x Z else 0 := by
  rw [sm_swap]
  exact sm_congr fun x hx => (sm_oneR (fun Z => f x Z) (h x (List.mem_range.mp hx))).symm
/-- qs is ps with rooms made one, by π -/
structure Quo (n : Nat) (ps : List (Nat × Nat)) (m : Nat) (qs : List (Nat × Nat)) (π : Nat → Nat) : Prop where
  lt : ∀ x, x < n → π x < m
  on : ∀ X, X < m → ∃ x, x < n ∧ π x = X
  mu : ∀ X y, X < m → y < n → KC.mu qs X (π y) = sm (List.range n) fun x => if π x = X then KC.mu ps x y else 0
section
variable {n m l m1 m2 : Nat} {ps qs rs q1 q2 : List (Nat × Nat)} {π ρ π1 π2 : Nat → Nat}
theorem Quo.refl : Quo n ps n ps fun x => x := ⟨fun _ h => h, fun X h => ⟨X, h, rfl⟩, fun X y hX _ => by rw [sm_one (fun x => KC.mu ps x y), if_pos hX]⟩
theorem Quo.trans (a : Quo n ps m qs π) (b : Quo m qs l rs ρ) : Quo n ps l rs fun x => ρ (π x) := by
  refine ⟨fun x h => b.lt _ (a.lt x h), fun X h => ?_, fun X y hX hy => ?_⟩
  · obtain ⟨Y, hY, e⟩ := b.on X h
    obtain ⟨x, hx, e2⟩ := a.on Y hY
    exact ⟨x, hx, by rw [e2, e]⟩
  · rw [b.mu X (π y) hX (a.lt y hy)]
    have e : sm (List.range m) (fun Y => if ρ Y = X then KC.mu qs Y (π y) else 0) = sm (List.range m) fun Y => sm (List.range n) fun x => if π x = Y then (fun x Y => if ρ Y = X then KC.mu ps x y else 0) x Y else 0 := sm_congr fun Y hY => by
      by_cases e : ρ Y = X
      · rw [if_pos e, a.mu Y y (List.mem_range.mp hY) hy]
        exact sm_congr fun x _ => by
          show _ = if π x = Y then (if ρ Y = X then KC.mu ps x y else 0) else 0
          rw [if_pos e]
      · rw [if_neg e]
        exact (sm_zero fun x _ => by
          show (if π x = Y then (if ρ Y = X then KC.mu ps x y else 0) else 0) = 0
          rw [if_neg e]
          split <;> rfl).symm
    rw [e, ← sm_class a.lt]
theorem mu_pull (h : In2 n ps) (X y : Nat) : sm (List.range n) (fun x => if π x = X then mu ps x y else 0) = sm ps fun p => if p.2 = y then (if π p.1 = X then 1 else 0) else 0 := by
  have e : sm (List.range n) (fun x => if π x = X then mu ps x y else 0) = sm (List.range n) fun x => sm ps fun p => if p.1 = x then (if p.2 = y then (if π x = X then 1 else 0) else 0) else 0 := sm_congr fun x _ => by
    by_cases e : π x = X
    · rw [if_pos e]
      refine sm_congr fun p _ => ?_
      by_cases e1 : p.1 = x
      · by_cases e2 : p.2 = y
        · rw [if_pos (Prod.ext e1 e2), if_pos e1, if_pos e2, if_pos e]
        · rw [if_neg (fun z => e2 (by rw [z])), if_pos e1, if_neg e2]
      · rw [if_neg (fun z => e1 (by rw [z])), if_neg e1]
    · rw [if_neg e]
      refine (sm_zero fun p _ => ?_).symm
      rw [if_neg e]
      split
      · split <;> rfl
      · rfl
  rw [e, sm_swap]
  refine sm_congr fun p hp => ?_
  rw [sm_oneR (fun x => if p.2 = y then (if π x = X then 1 else 0) else 0) (h p hp).1]
/-- names exchanged -/
theorem quo_named {rs : List Nat} (hA : In2 n ps) (hr : rs.Perm (List.range n)) (hq : qs.Perm (ps.map fun p => (rs.getD p.1 0, rs.getD p.2 0))) : Quo n ps n qs (fun x => rs.getD x 0) ∧ (∀ x y, x < n → y < n → rs.getD x 0 = rs.getD y 0 → x = y) ∧ In2 n qs := by
  have len : rs.length = n := by rw [hr.length_eq, List.length_range]
  have nd : rs.Nodup := hr.nodup_iff.mpr List.nodup_range
  have at_ : ∀ x, x < n → rs[x]? = some (rs.getD x 0) := fun x hx => by
    rw [List.getD_eq_getElem?_getD, List.getElem?_eq_getElem (by omega)]
    rfl
  have lt : ∀ x, x < n → rs.getD x 0 < n := fun x hx => List.mem_range.mp (hr.mem_iff.mp (List.mem_of_getElem? (at_ x hx)))
  have inj : ∀ x y, x < n → y < n → rs.getD x 0 = rs.getD y 0 → x = y := fun x y hx hy e => by
    have z1 := at_ x hx
    have z2 := at_ y hy
    rw [e] at z1
    exact (List.getElem?_inj (by omega) nd).mp (z1.trans z2.symm)
  have hB : In2 n qs := fun p hp => by
    obtain ⟨q, hq', rfl⟩ := List.mem_map.mp (hq.mem_iff.mp hp)
    exact ⟨lt _ (hA q hq').1, lt _ (hA q hq').2⟩
  refine ⟨⟨lt, fun X hX => ?_, fun X y hX hy => ?_⟩, inj, hB⟩
  · have z := hr.mem_iff.mpr (List.mem_range.mpr hX)
    obtain ⟨x, hx, e⟩ := List.mem_iff_getElem.mp z
    refine ⟨x, by omega, ?_⟩
    rw [List.getD_eq_getElem?_getD, List.getElem?_eq_getElem hx]
    exact e
  · rw [mu_pull hA, mu_count, hq.count_eq, ← mu_count]
    unfold mu
    rw [sm_map]
    refine sm_congr fun p hp => ?_
    have l := hA p hp
    by_cases e2 : p.2 = y
    · rw [if_pos e2]
      by_cases e1 : rs.getD p.1 0 = X
      · rw [if_pos e1, if_pos (by rw [e1, e2])]
      · rw [if_neg e1, if_neg fun z => e1 (congrArg Prod.fst z)]
    · rw [if_neg e2, if_neg fun z => e2 (inj _ _ l.2 hy (congrArg Prod.snd z))]
end
end KC
set_option Elab.async false
set_option linter.all false
set_option maxRecDepth 100000
set_option maxHeartbeats 2000000
namespace KD
open PySem PySem.Spec PyProof.Rows L2 KW KC
def namF (rs : List Nat) (p : Nat × Nat) : Nat × Nat := (rs.getD p.1 0, rs.getD p.2 0)
def namP (ps : List (Nat × Nat)) (rs is : List Nat) : List (Nat × Nat) := (List.range ps.length).map fun k => namF rs (ps.getD (is.idxOf k) (0, 0))
section
variable {n : Nat} {ps : List (Nat × Nat)} {rs is : List Nat}
theorem idx_perm {L : Nat} (h : is.Perm (List.range L)) : ((List.range L).map is.idxOf).Perm (List.range L) := by
  have len : is.length = L := by rw [h.length_eq, List.length_range]
  have nd : is.Nodup := h.nodup_iff.mpr List.nodup_range
  have mem : ∀ k, k < L → k ∈ is := fun k hk => h.mem_iff.mpr (List.mem_range.mpr hk)
  have nd2 : ((List.range L).map is.idxOf).Nodup := by
    refine List.Pairwise.map (R := fun a b => a < L ∧ b < L ∧ a ≠ b) _ (fun a b z e => z.2.2 ?_) ?_
    · have w1 := (idx_get (mem a z.1)).1
      have w2 := (idx_get (mem b z.2.1)).1
      rw [show is.idxOf a = is.idxOf b from e] at w1
      exact Option.some.inj (w1.symm.trans w2)
    · have z : (List.range L).Pairwise (· ≠ ·) := List.nodup_range
      exact List.Pairwise.imp_of_mem (fun ha hb h => ⟨List.mem_range.mp ha, List.mem_range.mp hb, h⟩) z
  refine (List.perm_ext_iff_of_nodup nd2 List.nodup_range).mpr fun x => ?_
  rw [List.mem_range]
  constructor
  · intro z
    obtain ⟨k, hk, rfl⟩ := List.mem_map.mp z
    rw [← len]
    exact idx_lt (mem k (List.mem_range.mp hk))
  · intro z
    have hx : is[x]? = some (is[x]'(by omega)) := List.getElem?_eq_getElem (by omega)
    refine List.mem_map.mpr ⟨is[x]'(by omega), ?_, idx_at nd hx⟩
    exact h.mem_iff.mp (List.mem_of_getElem? hx)
theorem places_map {α : Type} (f : Nat × Nat → α) (ps : List (Nat × Nat)) : (List.range ps.length).map (fun o => f (ps.getD o (0, 0))) = ps.map f := by
  apply List.ext_getElem?
  intro i
  by_cases h : i < ps.length
  · rw [List.getElem?_map, List.getElem?_range h, List.getElem?_map, getD_some h]
    rfl
  · rw [List.getElem?_eq_none (by rw [List.length_map, List.length_range]; omega), List.getElem?_eq_none (by rw [List.length_map]; omega)]
theorem nam_perm (hi : is.Perm (List.range ps.length)) : (namP ps rs is).Perm (ps.map (namF rs)) := by
  have z := (idx_perm hi).map fun o => namF rs (ps.getD o (0, 0))
  rw [places_map, List.map_map] at z
  exact z
theorem nam_len : (namP ps rs is).length = ps.length := by unfold namP; rw [List.length_map, List.length_range]
theorem nam_quo (hG : Good n ps) (hr : rs.Perm (List.range n)) (hi : is.Perm (List.range ps.length)) : Quo n ps n (namP ps rs is) (fun x => rs.getD x 0) ∧ (∀ x y, x < n → y < n → rs.getD x 0 = rs.getD y 0 → x = y) ∧ In2 n (namP ps rs is) := quo_named hG.2.1 hr (nam_perm hi)
theorem nam_good (hG : Good n ps) (hr : rs.Perm (List.range n)) (hi : is.Perm (List.range ps.length)) : Good n (namP ps rs is) := by
  obtain ⟨Q, inj, l2⟩ := nam_quo hG hr hi
  refine ⟨hG.1, l2, fun r hr2 => ?_⟩
  obtain ⟨x, hx, e⟩ := Q.on r hr2
  obtain ⟨p, hp, ep⟩ := hG.2.2 x hx
  exact ⟨namF rs p, (nam_perm hi).mem_iff.mpr (List.mem_map.mpr ⟨p, hp, rfl⟩), by unfold namF; rw [ep]; exact e⟩
end
end KD
set_option Elab.async false
set_option linter.all false
set_option maxRecDepth 100000
set_option maxHeartbeats 2000000
namespace KD
open PySem PySem.Spec PyProof.Rows L2 KW
/-- a table: rows and their arrows -/
abbrev Tb := List (List Int × Int)
def kyI (r : List Int) : List L2.Key := r.map Sum.inl
def tbD (t : Tb) : List (List L2.Key × D) := t.map fun p => (kyI p.1, D.int p.2)
/-- the first l of each row tell its arrow -/
def Enough (t : Tb) (l : Nat) : Prop := ∀ p ∈ t, ∀ q ∈ t, p.1.take l = q.1.take l → p.2 = q.2
instance (t : Tb) (l : Nat) : Decidable (Enough t l) := by unfold Enough; infer_instance
/-- the least window that is enough, at most l -/
def fewest (t : Tb) (l : Nat) : Nat := ((List.range' 1 (l - 1)).find? fun k => decide (Enough t k)).getD l
/-- what stands in the list behind i arrows -/
def NamTo (ps : List (Nat × Nat)) (rm im : List Nat) (i : Nat) (xs : List D) : Prop := xs.length = ps.length ∧ ∀ a, a < i → xs[im.getD a 0]? = some (prD (namF rm (ps.getD a (0, 0))))
theorem mapD_at {l : List Nat} {k : Nat} (h : k < l.length) : (l.map natD)[k]? = some (natD (l.getD k 0)) := by
  rw [List.getElem?_map, List.getD_eq_getElem?_getD, List.getElem?_eq_getElem h]
  rfl
theorem im_lt {im : List Nat} {L a : Nat} (pi : im.Perm (List.range L)) (h : a < im.length) : im.getD a 0 < L := by
  have m : im.getD a 0 ∈ im := by
    rw [List.getD_eq_getElem?_getD, List.getElem?_eq_getElem h]
    exact List.getElem_mem h
  exact List.mem_range.mp (pi.mem_iff.mp m)
theorem namTo_step {ps : List (Nat × Nat)} {rm im : List Nat} {i : Nat} {xs : List D} (pi : im.Perm (List.range ps.length)) (hi : i < ps.length) (h : NamTo ps rm im i xs) : NamTo ps rm im (i + 1) (xs.set (im.getD i 0) (prD (namF rm (ps.getD i (0, 0))))) := by
  have len : im.length = ps.length := by rw [pi.length_eq, List.length_range]
  have nd : im.Nodup := pi.nodup_iff.mpr List.nodup_range
  refine ⟨by rw [List.length_set]; exact h.1, fun a ha => ?_⟩
  by_cases e : a = i
  · subst e
    rw [List.getElem?_set_self (by rw [h.1]; exact im_lt pi (by omega))]
  · have ne : im.getD i 0 ≠ im.getD a 0 := fun z => by
      rw [List.getD_eq_getElem?_getD, List.getD_eq_getElem?_getD, List.getElem?_eq_getElem (by omega : i < im.length), List.getElem?_eq_getElem (by omega : a < im.length)] at z
      exact e ((List.getElem_inj nd).mp z).symm
    rw [List.getElem?_set_ne ne]
    exact h.2 a (by omega)
theorem namTo_all {ps : List (Nat × Nat)} {rm im : List Nat} {xs : List D} (pi : im.Perm (List.range ps.length)) (h : NamTo ps rm im ps.length xs) : xs = (namP ps rm im).map prD := by
  have len : im.length = ps.length := by rw [pi.length_eq, List.length_range]
  refine List.ext_getElem? fun k => ?_
  by_cases hk : k < ps.length
  · have mk : k ∈ im := pi.mem_iff.mpr (List.mem_range.mpr hk)
    have g := (idx_get mk).1
    have z := h.2 (im.idxOf k) (by rw [← len]; exact idx_lt mk)
    rw [List.getD_eq_getElem?_getD, g] at z
    unfold namP
    rw [List.getElem?_map, List.getElem?_map, List.getElem?_range hk]
    exact z
  · rw [List.getElem?_eq_none (by rw [h.1]; omega), List.getElem?_eq_none (by rw [List.length_map, nam_len]; omega)]
section
variable {P : Program} {w : World} {K : PySem.W.Frag} {mg : Str → Option Value} {base : Heap} {Ω : Obs} {C : Addr}
abbrev sLawNamed : Stmt := topS 33
abbrev nLawNamed : List Str := ["_law_w", "_law_rooms", "_law_arrows", "_law_pairs", "_law_at", "_law_pair"]
theorem scLawNamed : FnScope nLawNamed ["_law_w", "_law_rooms", "_law_arrows"] (defScope sLawNamed) := ⟨rfl, rfl, rfl, by decide +kernel, rfl, by decide +kernel, by decide +kernel⟩
end
end KD
set_option Elab.async false
set_option maxRecDepth 100000
set_option maxHeartbeats 2000000
namespace KW
open PySem PySem.Spec PyProof.Rows L2
section
variable {P : Program} {w : World} {K : PySem.W.Frag} {mg : Str → Option Value} {base : Heap}
/-- a list or a tuple of numbers -/
def TL (K : PySem.W.Frag) (H : Hp) (a : Addr) (l : List Nat) : Prop := SqL K H a (nums l) ∨ SqT K H a (nums l)
theorem TL.same {H H' : Hp} (s : Same H H') {a : Addr} {l : List Nat} (h : TL K H a l) : TL K H' a l := by
  rcases h with h | h
  · exact .inl (s.seq h)
  · exact .inr (sqT_kp (Same.kp s) h)
end
end KW
set_option Elab.async false
set_option linter.all false
set_option maxRecDepth 100000
set_option maxHeartbeats 2000000
namespace KD
open PySem PySem.Spec PyProof.Rows L2 KW
def toI (r : List Nat) : List Int := r.map fun a => ((a : Nat) : Int)
theorem toI_inj : ∀ {r q : List Nat}, toI r = toI q → r = q
  | [], [], _ => rfl
  | [], _ :: _, h => by cases h
  | _ :: _, [], h => by cases h
  | a :: r, b :: q, h => by
    unfold toI at h
    rw [List.map_cons, List.map_cons] at h
    injection h with h1 h2
    rw [toI_inj (r := r) (q := q) h2, show a = b by omega]
end KD
set_option Elab.async false
set_option linter.all false
set_option maxRecDepth 100000
set_option maxHeartbeats 2000000
namespace KD
open PySem PySem.Spec PyProof.Rows L2 KW
/-- a locked table in the heap -/
def TbAt (G : Hp) (r : Addr) (t : Tb) : Prop := ∃ o : Obj, G r = some (.frz o (.dT (t.map fun p => (kyI p.1, V.int p.2))))
theorem TbAt.same {G G' : Hp} (s : Same G G') {r : Addr} {t : Tb} (h : TbAt G r t) : TbAt G' r t := let ⟨o, h⟩ := h; ⟨o, s _ _ h⟩
theorem tb_repT {Ω : Obs} {G : Hp} : ∀ t : Tb, RepT Ω G (t.map fun p => (kyI p.1, V.int p.2)) (tbD t)
  | [] => .nil
  | _ :: t => .cons (.int _) (tb_repT t)
theorem TbAt.rep {Ω : Obs} {G : Hp} {r : Addr} {t : Tb} (h : TbAt G r t) : Rep Ω G (.ref r) (.ftb (tbD t)) := let ⟨_, h⟩ := h; .ftb h (tb_repT t)
/-- the fields of a reader, as its init sets them -/
def rdF (x y : Addr) (l : Nat) (r : Addr) (l2 : Nat) (r2 : Addr) : List (Str × V) := putF "least_rules" (.ref r2) (putF "least_look" (.int l2) (putF "rules" (.ref r) (putF "look" (.int l) (putF "target" (.ref y) (putF "source" (.ref x) [])))))
/-- what a reader tells -/
structure RdT where
  n : Nat
  ps : List (Nat × Nat)
  m : Nat
  qs : List (Nat × Nat)
  look : Nat
  rules : Tb
  least : Nat
  small : Tb
def RdT.d (R : RdT) : D := .tup [webO R.n R.ps, webO R.m R.qs, .int R.look, .ftb (tbD R.rules), .int R.least, .ftb (tbD R.small)]
def RdAt (CW CR : Addr) (G : Hp) (a : Addr) (R : RdT) : Prop := ∃ dx x y r r2, G a = some (.ins CR dx (rdF x y R.look r R.least r2)) ∧ WebAt CW G x R.n R.ps ∧ WebAt CW G y R.m R.qs ∧ TbAt G r R.rules ∧ TbAt G r2 R.small
theorem RdAt.same {CW CR : Addr} {G G' : Hp} (s : Same G G') {a : Addr} {R : RdT} (h : RdAt CW CR G a R) : RdAt CW CR G' a R := by
  obtain ⟨dx, x, y, r, r2, h1, h2, h3, h4, h5⟩ := h
  exact ⟨dx, x, y, r, r2, s _ _ h1, h2.same s, h3.same s, h4.same s, h5.same s⟩
end KD
set_option Elab.async false
set_option linter.all false
set_option maxRecDepth 100000
set_option maxHeartbeats 2000000
namespace KD
open PySem PySem.Spec PyProof.Rows L2 KW
end KD
set_option Elab.async false
set_option linter.all false
set_option maxRecDepth 100000
set_option maxHeartbeats 2000000
namespace KD
open PySem PySem.Spec PyProof.Rows L2 KW
/-- the arrow of a row -/
def look (t : Tb) (r : List Int) : Option Int := (t.find? fun p => decide (p.1 = r)).map (·.2)
end KD
set_option Elab.async false
set_option linter.all false
set_option maxRecDepth 100000
set_option maxHeartbeats 2000000
namespace KD
open PySem PySem.Spec PyProof.Rows L2 KW
theorem idxs_nodup (l : List Nat) (r : Nat) : (idxs l r 0).Nodup := by
  rw [idxs_filt]
  have z : ((List.range l.length).filter fun x => decide (l[x]? = some r)).Nodup := List.Nodup.sublist List.filter_sublist List.nodup_range
  exact List.Pairwise.map (R := fun a b => a ≠ b) _ (fun a b h e => h (by omega)) z
theorem rowsF_nodup (ps : List (Nat × Nat)) : ∀ k, (rowsF ps k).Nodup
  | 0 => List.Pairwise.map (R := fun a b => a ≠ b) _ (fun a b h e => h (by injection e)) List.nodup_range
  | k + 1 => by
    show ((rowsF ps k).flatMap fun r => (onOf ps (r.getLastD 0)).map fun a => r ++ [a]).Pairwise (· ≠ ·)
    rw [List.pairwise_flatMap]
    refine ⟨fun r _ => ?_, ?_⟩
    · refine List.Pairwise.map (R := fun a b => a ≠ b) _ (fun a b h e => h ?_) (idxs_nodup _ _)
      have := List.append_cancel_left e
      injection this
    · refine List.Pairwise.imp (fun {r q} h x hx y hy e => h ?_) (rowsF_nodup ps k)
      obtain ⟨a, _, rfl⟩ := List.mem_map.mp hx
      obtain ⟨b, _, rfl⟩ := List.mem_map.mp hy
      exact (List.append_inj' e rfl).1
/-- the table of a function of rows -/
def tabF (ps : List (Nat × Nat)) (k : Nat) (f : List Nat → Nat) : Tb := (rowsF ps k).map fun r => (toI r, ((f r : Nat) : Int))
/-- a function that makes a reader -/
structure RdOk (ps qs : List (Nat × Nat)) (k : Nat) (f : List Nat → Nat) : Prop where
  lt : ∀ r ∈ rowsF ps k, f r < qs.length
  fol : ∀ r ∈ rowsF ps k, ∀ a ∈ onOf ps (r.getLastD 0), (qs.getD (f (r.tail ++ [a])) (0, 0)).1 = (qs.getD (f r) (0, 0)).2
theorem row_tail {ps : List (Nat × Nat)} : ∀ {k : Nat} {r : List Nat}, r ∈ rowsF ps (k + 1) → r.tail ∈ rowsF ps k
  | 0, r, h => by
    obtain ⟨q, hq, h⟩ := List.mem_flatMap.mp h
    obtain ⟨a, ha, rfl⟩ := List.mem_map.mp h
    obtain ⟨b, hb, rfl⟩ := List.mem_map.mp hq
    refine List.mem_map.mpr ⟨a, List.mem_range.mpr ?_, rfl⟩
    have z := (idxs_lt _ _ _ _ ha).2
    rw [List.length_map] at z
    omega
  | k + 1, r, h => by
    obtain ⟨q, hq, h⟩ := List.mem_flatMap.mp h
    obtain ⟨a, ha, rfl⟩ := List.mem_map.mp h
    have hq : q ∈ rowsF ps (k + 1) := hq
    have lq := rowsF_len hq
    have ht := row_tail hq
    refine List.mem_flatMap.mpr ⟨q.tail, ht, List.mem_map.mpr ⟨a, ?_, ?_⟩⟩
    · have e : q.tail.getLastD 0 = q.getLastD 0 := by
        cases q with
        | nil => simp at lq
        | cons x q =>
          cases q with
          | nil => simp at lq
          | cons y q => rfl
      rw [e]
      exact ha
    · cases q with
      | nil => simp at lq
      | cons x q => rfl
theorem row_more {ps : List (Nat × Nat)} {k : Nat} {r : List Nat} {a : Nat} (h : r ∈ rowsF ps k) (ha : a ∈ onOf ps (r.getLastD 0)) : r ++ [a] ∈ rowsF ps (k + 1) := List.mem_flatMap.mpr ⟨r, h, List.mem_map.mpr ⟨a, ha, rfl⟩⟩
/-- the next row of the same length -/
theorem row_next {ps : List (Nat × Nat)} {k : Nat} {r : List Nat} {a : Nat} (h : r ∈ rowsF ps k) (ha : a ∈ onOf ps (r.getLastD 0)) : r.tail ++ [a] ∈ rowsF ps k := by
  have z := row_tail (row_more h ha)
  have l := rowsF_len h
  cases r with
  | nil => simp at l
  | cons x r => exact z
/-- the first l arrows tell what is made -/
def Dep (ps : List (Nat × Nat)) (k : Nat) (f : List Nat → Nat) (l : Nat) : Prop := ∀ r ∈ rowsF ps k, ∀ q ∈ rowsF ps k, r.take l = q.take l → f r = f q
theorem toI_take (r : List Nat) (l : Nat) : (toI r).take l = toI (r.take l) := by unfold toI; rw [List.map_take]
theorem dep_iff {ps : List (Nat × Nat)} {k : Nat} {f : List Nat → Nat} {l : Nat} : Enough (tabF ps k f) l ↔ Dep ps k f l := by
  constructor
  · intro h r hr q hq e
    have z := h (toI r, ((f r : Nat) : Int)) (List.mem_map.mpr ⟨r, hr, rfl⟩) (toI q, ((f q : Nat) : Int)) (List.mem_map.mpr ⟨q, hq, rfl⟩) (by show (toI r).take l = (toI q).take l; rw [toI_take, toI_take, e])
    have z : ((f r : Nat) : Int) = ((f q : Nat) : Int) := z
    omega
  · intro h p hp q hq e
    obtain ⟨r, hr, rfl⟩ := List.mem_map.mp hp
    obtain ⟨r', hr', rfl⟩ := List.mem_map.mp hq
    have e : (toI r).take l = (toI r').take l := e
    rw [toI_take, toI_take] at e
    show ((f r : Nat) : Int) = ((f r' : Nat) : Int)
    rw [h r hr r' hr' (toI_inj e)]
/-- an arrow that may come next -/
def hdA (ps : List (Nat × Nat)) (r : List Nat) : Nat := (onOf ps (r.getLastD 0)).headD 0
theorem on_ne {n : Nat} {ps : List (Nat × Nat)} (h : Good n ps) {a : Nat} (ha : a < ps.length) : onOf ps a ≠ [] := by
  have l := (getD_lt h.2.1 ha).2
  obtain ⟨p, hp, e⟩ := h.2.2 _ l
  intro z
  exact idxs_none _ _ _ z (List.mem_map.mpr ⟨p, hp, e⟩)
theorem last_lt {ps : List (Nat × Nat)} {k : Nat} {r : List Nat} (h : r ∈ rowsF ps k) : r.getLastD 0 < ps.length := by
  have l := rowsF_len h
  have ne : r ≠ [] := fun z => by rw [z] at l; simp at l
  exact rowsF_lt h _ (last_mem ne)
theorem hd_on {n : Nat} {ps : List (Nat × Nat)} (hG : Good n ps) {k : Nat} {r : List Nat} (h : r ∈ rowsF ps k) : hdA ps r ∈ onOf ps (r.getLastD 0) := by
  have z := on_ne hG (last_lt h)
  unfold hdA
  cases e : onOf ps (r.getLastD 0) with
  | nil => exact absurd e z
  | cons a l => exact List.mem_cons_self
def lower (ps : List (Nat × Nat)) (f : List Nat → Nat) : List Nat → Nat := fun r => f (r ++ [hdA ps r])
def lowN (ps : List (Nat × Nat)) : Nat → (List Nat → Nat) → List Nat → Nat
  | 0, f => f
  | j + 1, f => lowN ps j (lower ps f)
theorem take_app {r : List Nat} {a l : Nat} (h : l ≤ r.length) : (r ++ [a]).take l = r.take l := List.take_append_of_le_length h
theorem dep_lower {n : Nat} {ps : List (Nat × Nat)} (hG : Good n ps) {k l : Nat} {f : List Nat → Nat} (h : Dep ps (k + 1) f l) (hl : l ≤ k + 1) : Dep ps k (lower ps f) l := fun r hr q hq e => by
  have lr := rowsF_len hr
  have lq := rowsF_len hq
  refine h _ (row_more hr (hd_on hG hr)) _ (row_more hq (hd_on hG hq)) ?_
  rw [take_app (by omega), take_app (by omega), e]
theorem dep_up {ps : List (Nat × Nat)} {k l m : Nat} {f : List Nat → Nat} (h : Dep ps k f l) (hl : l ≤ m) : Dep ps k f m := fun r hr q hq e => h r hr q hq (by
  have z := congrArg (List.take l) e
  rw [List.take_take, List.take_take, Nat.min_eq_left hl] at z
  exact z)
theorem ok_lower {n : Nat} {ps qs : List (Nat × Nat)} (hG : Good n ps) {k : Nat} {f : List Nat → Nat} (h : RdOk ps qs (k + 1) f) (d : Dep ps (k + 1) f (k + 1)) : RdOk ps qs k (lower ps f) := by
  refine ⟨fun r hr => h.lt _ (row_more hr (hd_on hG hr)), fun r hr a ha => ?_⟩
  have lr := rowsF_len hr
  have hR := row_more hr ha
  have hN := row_next hr ha
  have e0 : (r.tail ++ [a]).getLastD 0 = (r ++ [a]).getLastD 0 := by simp
  have hb := hd_on hG hN
  have z := h.fol _ hR (hdA ps (r.tail ++ [a])) (by rw [← e0]; exact hb)
  have e1 : (r ++ [a]).tail ++ [hdA ps (r.tail ++ [a])] = (r.tail ++ [a]) ++ [hdA ps (r.tail ++ [a])] := by
    cases r with
    | nil => simp at lr
    | cons x r => rfl
  rw [e1] at z
  have e2 : f (r ++ [a]) = lower ps f r := d _ hR _ (row_more hr (hd_on hG hr)) (by rw [take_app (by omega), take_app (by omega)])
  rw [e2] at z
  exact z
theorem ok_low {n : Nat} {ps qs : List (Nat × Nat)} (hG : Good n ps) : ∀ (j l : Nat) (f : List Nat → Nat), RdOk ps qs (l + j) f → Dep ps (l + j) f (l + 1) → RdOk ps qs l (lowN ps j f)
  | 0, l, f, h, _ => h
  | j + 1, l, f, h, d => by
    have d : Dep ps (l + j + 1) f (l + 1) := d
    exact ok_low hG j l (lower ps f) (ok_lower hG h (dep_up d (by omega))) (dep_lower hG d (by omega))
/-- the least window, less one; what it makes -/
def lwK (ps : List (Nat × Nat)) (k : Nat) (f : List Nat → Nat) : Nat := fewest (tabF ps k f) (k + 1) - 1
theorem fewest_is (t : Tb) (l : Nat) (h : 1 ≤ l) (top : Enough t l) : 1 ≤ fewest t l ∧ fewest t l ≤ l ∧ Enough t (fewest t l) ∧ ∀ j, 1 ≤ j → j < fewest t l → ¬ Enough t j := by
  unfold fewest
  cases e : (List.range' 1 (l - 1)).find? fun k => decide (Enough t k) with
  | none =>
    rw [List.find?_eq_none] at e
    refine ⟨h, Nat.le_refl _, top, fun j h1 h2 en => ?_⟩
    have h2 : j < l := h2
    have z := e j (List.mem_range'_1.mpr ⟨h1, by omega⟩)
    rw [decide_eq_true_eq] at z
    exact z en
  | some k =>
    obtain ⟨a, b, c⟩ := List.find?_range'_eq_some.mp e
    rw [decide_eq_true_eq] at a
    have hk := List.mem_range'_1.mp b
    refine ⟨hk.1, by show k ≤ l; omega, a, fun j h1 h2 en => ?_⟩
    have h2 : j < k := h2
    have z := c j h1 h2
    rw [decide_eq_true en] at z
    cases z
theorem top_enough {ps : List (Nat × Nat)} {k : Nat} {f : List Nat → Nat} : Enough (tabF ps k f) (k + 1) := dep_iff.mpr fun r hr q hq e => by
  have lr := rowsF_len hr
  have lq := rowsF_len hq
  rw [List.take_of_length_le (by omega), List.take_of_length_le (by omega)] at e
  rw [e]
theorem lw_is (ps : List (Nat × Nat)) (k : Nat) (f : List Nat → Nat) : fewest (tabF ps k f) (k + 1) = lwK ps k f + 1 ∧ lwK ps k f ≤ k ∧ Dep ps k f (lwK ps k f + 1) ∧ ∀ j, j < lwK ps k f → ¬ Dep ps k f (j + 1) := by
  obtain ⟨h1, h2, h3, h4⟩ := fewest_is (tabF ps k f) (k + 1) (by omega) top_enough
  have e : fewest (tabF ps k f) (k + 1) = lwK ps k f + 1 := by unfold lwK; omega
  refine ⟨e, by omega, ?_, fun j hj d => h4 (j + 1) (by omega) (by omega) (dep_iff.mpr d)⟩
  rw [e] at h3
  exact dep_iff.mp h3
/-- what the least form makes of its rows -/
def lstF (ps : List (Nat × Nat)) (k : Nat) (f : List Nat → Nat) : List Nat → Nat := lowN ps (k - lwK ps k f) f
theorem lst_ok {n : Nat} {ps qs : List (Nat × Nat)} (hG : Good n ps) {k : Nat} {f : List Nat → Nat} (h : RdOk ps qs k f) : RdOk ps qs (lwK ps k f) (lstF ps k f) := by
  obtain ⟨e, le, d, _⟩ := lw_is ps k f
  have z := ok_low (qs := qs) hG (k - lwK ps k f) (lwK ps k f) f
  rw [show lwK ps k f + (k - lwK ps k f) = k by omega] at z
  exact z h d
end KD
set_option Elab.async false
set_option linter.all false
set_option maxRecDepth 100000
set_option maxHeartbeats 4000000
namespace KD
open PySem PySem.Spec PyProof.Rows L2 KW
end KD
set_option Elab.async false
set_option linter.all false
set_option maxRecDepth 100000
set_option maxHeartbeats 4000000
namespace KD
open PySem PySem.Spec PyProof.Rows L2 KW KC
theorem fst_at {ps : List (Nat × Nat)} {room a : Nat} (h : a ∈ idxs (ps.map (fun p : Nat × Nat => p.1)) room 0) : a < ps.length ∧ (ps.getD a (0, 0)).1 = room := by
  obtain ⟨i, e, hi⟩ := idxs_mem room _ 0 a h
  obtain rfl : a = i := by omega
  rw [List.getElem?_map] at hi
  cases q : ps[a]? with
  | none => rw [q] at hi; cases hi
  | some p =>
    rw [q] at hi
    refine ⟨(List.getElem?_eq_some_iff.mp q).1, ?_⟩
    rw [List.getD_eq_getElem?_getD, q]
    exact Option.some.inj hi
end KD
set_option Elab.async false
set_option linter.all false
set_option maxRecDepth 100000
set_option maxHeartbeats 4000000
namespace KD
open PySem PySem.Spec PyProof.Rows L2 KW KC
structure RdP (n : Nat) (ps : List (Nat × Nat)) (m : Nat) (qs : List (Nat × Nat)) (k : Nat) (f : List Nat → Nat) : Prop where
  g1 : Good n ps
  n1 : n ≤ 100
  l1 : ps.length ≤ 400
  g2 : Good m qs
  n2 : m ≤ 100
  l2 : qs.length ≤ 400
  win : k + 1 ≤ 6
  few : (rowsF ps k).length ≤ 600
  ok : RdOk ps qs k f
theorem RdP.least {n : Nat} {ps : List (Nat × Nat)} {m : Nat} {qs : List (Nat × Nat)} {k : Nat} {f : List Nat → Nat} (h : RdP n ps m qs k f) : RdP n ps m qs (lwK ps k f) (lstF ps k f) := by
  have le := (lw_is ps k f).2.1
  exact ⟨h.g1, h.n1, h.l1, h.g2, h.n2, h.l2, by have := h.win; omega, Nat.le_trans (rowsF_under h.g1 le) h.few, lst_ok h.g1 h.ok⟩
end KD
set_option Elab.async false
set_option linter.all false
set_option maxRecDepth 100000
set_option maxHeartbeats 2000000
namespace KD
open PySem PySem.Spec PyProof.Rows L2 KW KC
end KD
set_option Elab.async false
set_option linter.all false
set_option maxRecDepth 100000
set_option maxHeartbeats 2000000
namespace KD
open PySem PySem.Spec PyProof.Rows L2 KW KC
end KD
set_option Elab.async false
set_option linter.all false
set_option maxRecDepth 100000
set_option maxHeartbeats 2000000
namespace KD
open PySem PySem.Spec PyProof.Rows L2 KW KC
section
variable {n : Nat} {ps : List (Nat × Nat)}
theorem row1_is {r : List Nat} (h : r ∈ rowsF ps 0) : ∃ x, x < ps.length ∧ r = [x] := by
  obtain ⟨x, hx, rfl⟩ := List.mem_map.mp h
  exact ⟨x, List.mem_range.mp hx, rfl⟩
theorem on_is {x y : Nat} (h : y ∈ onOf ps x) : y < ps.length ∧ (ps.getD y (0, 0)).1 = (ps.getD x (0, 0)).2 := fst_at h
end
end KD
set_option Elab.async false
set_option linter.all false
set_option maxRecDepth 100000
set_option maxHeartbeats 4000000
namespace KD
open PySem PySem.Spec PyProof.Rows L2 KW KC
end KD
set_option Elab.async false
set_option linter.all false
set_option maxRecDepth 100000
set_option maxHeartbeats 4000000
namespace KD
open PySem PySem.Spec PyProof.Rows L2 KW KC
end KD
set_option Elab.async false
set_option linter.all false
set_option maxRecDepth 100000
set_option maxHeartbeats 2000000
namespace KD
open PySem PySem.Spec PyProof.Rows L2 KW KC
section
variable {ps qs rs : List (Nat × Nat)}
/-- so many arrows from a place on -/
def sub (k : Nat) (r : List Nat) (i : Nat) : List Nat := (r.drop i).take (k + 1)
end
end KD
set_option Elab.async false
set_option linter.all false
set_option maxRecDepth 100000
set_option maxHeartbeats 2000000
namespace KD
open PySem PySem.Spec PyProof.Rows L2 KW KC
end KD
set_option Elab.async false
set_option linter.all false
set_option maxRecDepth 100000
set_option maxHeartbeats 2000000
namespace KD
open PySem PySem.Spec PyProof.Rows L2 KW KC
/-- so many arrows of a walk, from a beat on -/
def win (k : Nat) (s : Nat → Nat) (i : Nat) : List Nat := (List.range (k + 1)).map fun j => s (i + j)
end KD
set_option Elab.async false
set_option linter.all false
set_option maxRecDepth 100000
set_option maxHeartbeats 4000000
namespace KD
open PySem PySem.Spec PyProof.Rows L2 KW KC
end KD
set_option Elab.async false
set_option linter.all false
set_option maxRecDepth 100000
set_option maxHeartbeats 2000000
namespace KD
open PySem PySem.Spec PyProof.Rows L2 KW
end KD
set_option Elab.async false
set_option linter.all false
set_option maxRecDepth 100000
set_option maxHeartbeats 4000000
namespace KD
open PySem PySem.Spec PyProof.Rows L2 KW KC
/-- a web told by the law, the pairs in any tuple -/
def wAs (w : D) (n : Nat) (ps : List (Nat × Nat)) : Prop := ∃ e, w = .tup [.int n, e] ∧ asTup e = some (ps.map prD)
theorem wAs_wD {n : Nat} {ps : List (Nat × Nat)} : wAs (wD n ps) n ps := ⟨_, rfl, rfl⟩
theorem wAs_tup {n : Nat} {ps : List (Nat × Nat)} : wAs (.tup [.int n, .tup (ps.map prD)]) n ps := ⟨_, rfl, rfl⟩
def mfMadeS : MF where
  n := 1
  wp := fun ds Q _ => ∃ (w : D) (n : Nat) (ps : List (Nat × Nat)), ds = [w] ∧ wAs w n ps ∧ Good n ps ∧ n ≤ 100 ∧ ps.length ≤ 400 ∧ Q (webO n ps)
  mono := fun h _ ⟨w, n, ps, a, b, c, d, e, q⟩ => ⟨w, n, ps, a, b, c, d, e, h _ q⟩
  len := fun ⟨w, n, ps, a, _⟩ => by rw [a]; rfl
abbrev Tri : Type := Nat × Nat × Nat
/-- what the blur has found behind i arrows -/
structure BlurI (ps : List (Nat × Nat)) (cl : Nat → Nat) (c : Nat) (i : Nat) (ts : List Tri) (as : List Nat) : Prop where
  len : as.length = i
  few : ts.length ≤ i
  rng : ∀ t ∈ ts, t.1 < c ∧ t.2.1 < c
  at_ : ∀ a, a < i → ∃ t, ts[as.getD a 0]? = some t ∧ t.1 = cl (ps.getD a (0, 0)).1 ∧ t.2.1 = cl (ps.getD a (0, 0)).2
theorem BlurI.ok {n : Nat} {ps : List (Nat × Nat)} {cl : Nat → Nat} {c : Nat} {ts more : List Tri} {as : List Nat} (h : BlurI ps cl c ps.length ts as) : RdOk ps ((ts ++ more).map fun t => (t.1, t.2.1)) 0 (fun r => as.getD (r.getD 0 0) 0) := by
  have g : ∀ a, a < ps.length → as.getD a 0 < ((ts ++ more).map fun t : Tri => (t.1, t.2.1)).length ∧ ((ts ++ more).map fun t : Tri => (t.1, t.2.1)).getD (as.getD a 0) (0, 0) = (cl (ps.getD a (0, 0)).1, cl (ps.getD a (0, 0)).2) := fun a ha => by
    obtain ⟨t, h1, h2, h3⟩ := h.at_ a ha
    have lt := (List.getElem?_eq_some_iff.mp h1).1
    refine ⟨by rw [List.length_map, List.length_append]; omega, ?_⟩
    rw [List.getD_eq_getElem?_getD, List.getElem?_map, List.getElem?_append_left lt, h1]
    show (t.1, t.2.1) = _
    rw [h2, h3]
  refine ⟨fun r hr => ?_, fun r hr b hb => ?_⟩
  · obtain ⟨a, ha, rfl⟩ := row1_is hr
    exact (g a ha).1
  · obtain ⟨a, ha, rfl⟩ := row1_is hr
    obtain ⟨lb, e⟩ := on_is hb
    have e : (ps.getD b (0, 0)).1 = (ps.getD a (0, 0)).2 := e
    show (((ts ++ more).map fun t : Tri => (t.1, t.2.1)).getD (as.getD b 0) (0, 0)).1 = (((ts ++ more).map fun t : Tri => (t.1, t.2.1)).getD (as.getD a 0) (0, 0)).2
    rw [(g a ha).2, (g b lb).2, e]
theorem BlurI.good {n : Nat} {ps : List (Nat × Nat)} (hG : Good n ps) {cl : Nat → Nat} {c : Nat} (on : ∀ j, j < c → ∃ r, r < n ∧ cl r = j) (c1 : 1 ≤ c) {ts more : List Tri} {as : List Nat} (h : BlurI ps cl c ps.length ts as) (hm : ∀ t ∈ more, t.1 < c ∧ t.2.1 < c) : Good c ((ts ++ more).map fun t => (t.1, t.2.1)) := by
  refine ⟨c1, fun p hp => ?_, fun j hj => ?_⟩
  · obtain ⟨t, ht, rfl⟩ := List.mem_map.mp hp
    rcases List.mem_append.mp ht with ht | ht
    · exact h.rng t ht
    · exact hm t ht
  · obtain ⟨r, hr, e⟩ := on j hj
    obtain ⟨p, hp, ep⟩ := hG.2.2 r hr
    obtain ⟨a, ha⟩ := List.mem_iff_getElem?.mp hp
    have la := (List.getElem?_eq_some_iff.mp ha).1
    have ga : ps.getD a (0, 0) = p := by rw [List.getD_eq_getElem?_getD, ha]; rfl
    obtain ⟨t, h1, h2, h3⟩ := h.at_ a la
    refine ⟨(t.1, t.2.1), List.mem_map.mpr ⟨t, List.mem_append_left _ (List.mem_of_getElem? h1), rfl⟩, ?_⟩
    show t.1 = j
    rw [h2, ga, ep, e]
section
variable {P : Program} {w : World} {K : PySem.W.Frag} {mg : Str → Option Value} {base : Heap} {Ω : Obs} {C CRd : Addr}
abbrev sLawMade : Stmt := topS 32
abbrev nLawMade : List Str := ["_law_w"]
theorem scLawMade : FnScope nLawMade ["_law_w"] (defScope sLawMade) := ⟨rfl, rfl, rfl, by decide +kernel, rfl, by decide +kernel, by decide +kernel⟩
theorem cal_LawMade {f : Addr} {fd : FuncData} (F : Fun K "_law_made" "_law_made" sLawMade f fd) (b : Binds K fd ["_law_w"] []) (m : mg "_law_made" = some (.ref f)) (k : PySem.W.keepIn K (.ref f) = true) (mCWeb : mg "Web" = some (.ref C)) (iWeb : ∃ f fd, FnOk P w K mg base CX0 3 f fd ["self", "rooms", "arrows"] (spInit K C) ∧ Binds K fd ["self", "rooms", "arrows"] [] ∧ Mk K C f) (TWeb : WebC K C) (W : WebΩ Ω C) (mList : mg "list" = none) :
    Cal P w K mg base CX0 5 "_law_made" ["_law_w"] (spD Ω mfMadeS) := by
  refine ⟨f, fd, F.ok scLawMade (fun vs H Q E h => spD_len h) (fun cdv A outer s H vs Q E hr h => ?_), b, m, k⟩
  obtain ⟨fWeb, fdWeb, GIWeb, bIWeb, MWeb⟩ := iWeb
  have hrWeb : Room 4 _ := hr.mono (by decide)
  refine ⟨_, (pss_one (ps_ret (pe_make MWeb GIWeb hrWeb (by rfl) mCWeb bIWeb .nil pass0 (pa_cons (pe_ix ix_tup (pv 0) pe_int (fun _ _ => rfl)) (pa_cons (pe_callTy call_list_of (by rfl) mList boot_list' (pa_cons (pe_ix ix_tup (pv 0) pe_int (fun _ _ => rfl)) pa_nil)) pa_nil))))),
    run_pure h 0 rfl (fun A => (ds_ret (dn_makeWeb W (da_cons (dn_op op_ixT dn_var dn_int) (da_cons (dn_own (do_callB c_list (da_cons (dn_op op_ixT dn_var dn_int) da_nil))) da_nil))))) (fun ds Q Ex hyp => ?_)⟩
  obtain ⟨w, n, ps, rfl, ⟨e, rfl, he⟩, hG, hn, hl, q⟩ := hyp
  have hs : asSeq e = some (ps.map prD) := by cases e <;> first | exact he | cases he
  exact ⟨_, rfl, _, _, _, rfl, rfl, rfl, _, rfl, _, _, _, rfl, rfl, rfl, _, _, rfl, hs, n, ps, rfl, hG, hn, hl, q⟩
end
end KD
set_option Elab.async false
set_option linter.all false
set_option maxRecDepth 100000
set_option maxHeartbeats 4000000
namespace KD
open PySem PySem.Spec PyProof.Rows L2 KW KC
end KD
set_option Elab.async false
set_option linter.all false
set_option maxRecDepth 100000
set_option maxHeartbeats 4000000
namespace KD
open PySem PySem.Spec PyProof.Rows L2 KW KC
theorem tup_seq {d : D} {xs : List D} (h : asTup d = some xs) : asSeq d = some xs := by
  cases d <;> first | exact h | cases h
end KD
set_option Elab.async false
set_option linter.all false
set_option maxRecDepth 100000
set_option maxHeartbeats 4000000
namespace KD
open PySem PySem.Spec PyProof.Rows L2 KW KC
def endsE (n : Nat) (ps : List (Nat × Nat)) : Nat → List (List Nat)
  | 0 => (List.range n).map fun i => [i]
  | k + 1 => rowsF ps k
theorem at0 {r : List Nat} (h : r ≠ []) : atI ((toI r).map D.int) 0 = some (.int ((r.getD 0 0 : Nat) : Int)) := by
  cases r with
  | nil => exact absurd rfl h
  | cons a r => exact atI_nat (j := 0) rfl
def ixE (n : Nat) (ps : List (Nat × Nat)) (k : Nat) (e : List Nat) : Nat := (endsE n ps k).idxOf e
theorem endsE_nodup (n : Nat) (ps : List (Nat × Nat)) : ∀ k, (endsE n ps k).Nodup
  | 0 => List.Pairwise.map (R := fun a b : Nat => a ≠ b) _ (fun a b h e => h (by injection e)) List.nodup_range
  | k + 1 => rowsF_nodup ps k
theorem ixE_at {n : Nat} {ps : List (Nat × Nat)} {k i : Nat} {e : List Nat} (h : (endsE n ps k)[i]? = some e) : ixE n ps k e = i := by
  obtain ⟨lt, rfl⟩ := List.getElem?_eq_some_iff.mp h
  exact (endsE_nodup n ps k).idxOf_getElem i lt
/-- lists by arrows -/
structure CoI (L : List (Nat × Nat)) (ks : List L2.Key) (xss : List (List D)) : Prop where
  len : ks.length = xss.length
  nd : ks.Nodup
  at_ : ∀ (j : Nat) (key : L2.Key), ks[j]? = some key → ∃ a : Nat, key = Sum.inl ((a : Nat) : Int) ∧ xss[j]? = some ((L.filter fun p => decide (p.1 = a)).map fun p => natD p.2) ∧ ∃ p ∈ L, p.1 = a
  all : ∀ p ∈ L, (Sum.inl ((p.1 : Nat) : Int) : L2.Key) ∈ ks
  few : ks.length ≤ L.length
theorem CoI.nil : CoI [] [] [] := ⟨rfl, List.nodup_nil, (fun _ _ h => by simp at h), (fun _ h => nomatch h), Nat.le_refl _⟩
theorem CoI.new {L : List (Nat × Nat)} {ks : List L2.Key} {xss : List (List D)} (h : CoI L ks xss) {a b : Nat} (hk : (Sum.inl ((a : Nat) : Int) : L2.Key) ∉ ks) : CoI (L ++ [(a, b)]) (ks ++ [Sum.inl ((a : Nat) : Int)]) (xss ++ [[natD b]]) := by
  have no : ∀ p ∈ L, ¬ p.1 = a := fun p hp e => hk (by rw [← e]; exact h.all p hp)
  refine ⟨by rw [List.length_append, List.length_append, h.len]; rfl, ?_, fun j key hj => ?_, fun p hp => ?_, by rw [List.length_append, List.length_append]; exact Nat.add_le_add_right h.few 1⟩
  · rw [List.nodup_append]
    exact ⟨h.nd, by simp, fun x hx y hy z => hk (by rw [← List.mem_singleton.mp hy, ← z]; exact hx)⟩
  · by_cases c : j < ks.length
    · rw [List.getElem?_append_left c] at hj
      obtain ⟨d, rfl, e1, p, hp, ep⟩ := h.at_ j key hj
      refine ⟨d, rfl, ?_, p, List.mem_append_left _ hp, ep⟩
      rw [List.getElem?_append_left (by rw [← h.len]; exact c), e1, List.filter_append]
      have ne : ¬ a = d := fun z => by
        subst z
        exact hk (List.mem_of_getElem? hj)
      rw [show ([(a, b)].filter fun p : Nat × Nat => decide (p.1 = d)) = [] from by simp [ne], List.append_nil]
    · rw [List.getElem?_append_right (by omega)] at hj
      have ej : j = ks.length := by
        have z := (List.getElem?_eq_some_iff.mp hj).1
        simp at z
        omega
      subst ej
      rw [Nat.sub_self] at hj
      injection hj with hj
      refine ⟨a, hj.symm, ?_, (a, b), List.mem_append_right _ (List.mem_singleton.mpr rfl), rfl⟩
      rw [h.len, List.getElem?_append_right (Nat.le_refl _), Nat.sub_self, List.filter_append]
      rw [show (L.filter fun p : Nat × Nat => decide (p.1 = a)) = [] from List.filter_eq_nil_iff.mpr fun p hp => by simpa using no p hp]
      rw [show ([(a, b)].filter fun p : Nat × Nat => decide (p.1 = a)) = [(a, b)] from by simp]
      rfl
  · rcases List.mem_append.mp hp with hp | hp
    · exact List.mem_append_left _ (h.all p hp)
    · rw [List.mem_singleton.mp hp]
      exact List.mem_append_right _ (List.mem_singleton.mpr rfl)
def mfOuts : MFO where
  n := 2
  wp := fun ds Q _ => ∃ (n : Nat) (ps : List (Nat × Nat)) (r : Nat), ds = [webO n ps, .int r] ∧ r < n ∧ Q ((idxs (ps.map fun p : Nat × Nat => p.1) r 0).map natD)
  mono := fun h _ ⟨n, ps, r, a, b, q⟩ => ⟨n, ps, r, a, b, h _ q⟩
  len := fun ⟨n, ps, r, a, _⟩ => by rw [a]; rfl
theorem d_outs {P : Program} {w : World} {K : PySem.W.Frag} {mg : Str → Option Value} {base : Heap} {CX : CXT} {k : Nat} {f C : Addr} {fd : FuncData} {ps : List Str} {Ω : Obs} (W : WebΩ Ω C) (F : FnOk P w K mg base CX k f fd ps (spOuts C)) : FnOk P w K mg base CX k f fd ps (spO Ω mfOuts) := F.imp fun vs H Q E h => by
  obtain ⟨G, ds, s, r, n, ps, i, rfl, lt, q⟩ := h
  cases r with
  | cons ra r =>
    obtain ⟨v, rfl, rv⟩ := r.one
    cases rv
    obtain ⟨x, rfl, hx, _⟩ := rep_web W ra
    exact ⟨x, n, ps, i, rfl, hx.same s, lt, fun H' l s' nl hl => q G l _ H' s' (Same.refl _) (s.trans s') (New.refl _ _) nl hl (nums_reps _) (s.free nl)⟩
end KD
set_option Elab.async false
set_option linter.all false
set_option maxRecDepth 100000
set_option maxHeartbeats 3200000
namespace KW
open PySem PySem.Spec PyProof.Rows L2
end KW
set_option Elab.async false
set_option linter.all false
set_option maxRecDepth 100000
set_option maxHeartbeats 3200000
namespace KW
open PySem PySem.Spec PyProof.Rows L2
section
variable {X : Cx} {tg e : Expr} {td : TE} {apos cpos : Pos}
theorem call_lenN : CallR X (.builtin "len") (fun xs H Q => ∃ (a : Addr) (kvs : NX), xs = [.ref a] ∧ Rd H a (.ext (ndP X.prog X.w a kvs)) ∧ Q (.int kvs.length) H) := by
  intro pins s σ H xs us Q I r h
  obtain ⟨a, kvs, rfl, hd, q⟩ := h
  obtain ⟨u, rfl, rx⟩ := vals1 r
  cases rx
  have hn := line63
  obtain ⟨z, hs, ys, rel, ob, es, ep, ho, hx, hdt, he, _⟩ := (rd_of I.hok hd).1
  have len : kvs.length = ys.length := Paired.length rel
  have sz : es.size = ys.length := by rw [← Array.length_toList, he, List.length_map]
  have raw : s.heap.DictRaw a es ep := ⟨ob, ho, hx, hdt⟩
  have e : ((es.size : Nat) : Int) = ((kvs.length : Nat) : Int) := by rw [sz, len]
  refine PyProof.Rows.call_len_slot (n := ((kvs.length : Nat) : Int)) raw.typeIs PySem.F.slot_dict_len (fun Q' q' => call_len_raw hs raw (by rw [e]; exact q')) (by omega) (by rw [sizeLine_eq] at z; omega) ?_
  exact ⟨.int kvs.length, H, I.tok _, ⟨s.toks + 1, rfl⟩, q⟩
end
section
variable {X : Cx}
/-- {k: v for target in iter if ..}, k a tuple with tuples in it: D the new dict -/
def tDcN (P : Program) (w : World) (wi : TI) (g : TG) (tt : TT) (tk tv : TE) (vs : List Nat) : TE := fun σ H Q => wi σ H fun J H1 => ∀ D, H1 D = none → KD.MutO (.ext (ndP P w D [])) → ∃ W : Nat → Nat → Hp → Prop, (∃ m, W 0 m (upd H1 D (.ext (ndP P w D [])))) ∧ ∀ i m H, W i m H →
  (J.stop i H ∧ Q (.ref D) H) ∨ (J.go i H ∧ ∃ Nx : Hp → Prop, (∀ H', Nx H' → ∃ m', m' < m ∧ W (i + 1) m' H') ∧ ∀ x H', J.yld i H x H' → g x (L2.wipe σ vs) H' fun σ2 H2 => L2.wipe σ2 vs = L2.wipe σ vs ∧ tt σ2 H2 fun b H3 =>
    if b = true then tk σ2 H3 fun y H4 => tv σ2 H4 fun z H5 => ∃ (kvs : NX) (k : KD.NK) (a : Addr), y = .ref a ∧ KD.KeyIs H5 y k ∧ k.depth ≤ 8 ∧ KeysOk H5 kvs ∧ H5 D = some (.ext (ndP P w D kvs)) ∧ kvs.length < 1000000 ∧ (KD.MutO (.ext (ndP P w D (putN kvs k a z))) → Nx (upd H5 D (.ext (ndP P w D (putN kvs k a z))))) else Nx H3)
theorem n_dictSet {pins : List (Addr × Obj)} {σ : L2.St} {H : Hp} {s : Shared} {E : Value → Shared → Prop} {D : Addr} {kvs : NX} {k : KD.NK} {b : Addr} {v : V} {u r : Value} {Q : Unit → Shared → Prop} (hu : X.A.units + 8 < cLine) (I : Inv X pins σ H s) (hD : H D = some (.ext (ndP X.prog X.w D kvs))) (few : kvs.length < 1000000) (ks : KeysOk H kvs) (ky : KD.KeyIs H (.ref b) k) (dp : k.depth ≤ 8)
    (ry : RelV (.ref b) u) (rv : RelV v r) (go : ∀ s2, KD.MutO (.ext (ndP X.prog X.w D (putN kvs k b v))) → Inv X pins σ (upd H D (.ext (ndP X.prog X.w D (putN kvs k b v)))) s2 → Q () s2) : wpAny (model X.prog X.w) X.A (dictSet D u r) Q E s := by
  cases (show u = Value.ref b from ry)
  obtain ⟨z, hd, ys, rel, dd⟩ := nd_of I (.inl hD) ks
  have hl : (putN kvs k b v).length ≤ sizeLine := by have := putN_len kvs k b v; rw [sizeLine_eq]; omega
  refine wpAny_dictSet_heap (knd := nestedKind X.prog X.w) (hsz := by rw [← Paired.length rel]; exact z) hu ⟨key_nested I ky rfl, dp⟩ dd fun h2 dd2 hs => ?_
  obtain ⟨q, es, ep, hq, h3, h4, h5, _, h6⟩ := dd2
  have np : ndP X.prog X.w D (putN kvs k b v) h2 := ⟨hl, hd, _, rel.put k b rv, q, es, ep, hq, h3, h4, h5, h6⟩
  exact go _ (ndP_mut np) (d_write I (by rw [hD]; exact True.intro) hs ⟨q, hq⟩ (ndP_obj np))
theorem pe_dcN {kx vx tg iter : Expr} {ifs : List Expr} {scope : Scope} {own : List (Str × Nat)} {pos : Pos} {wi : TI} {g : TG} {tt : TT} {tk tv : TE} (hu : X.A.units + 8 < cLine) (hc : X.calm = true) (hN : X.N.Nodup) (hi : PI X tg iter wi) (ok : BlkOk X.N X.env.scope scope own)
    (hg : ∀ (s : Shared) (H : Hp) (C : Addr) (cl : List (Str × Addr)) (fp : List Addr), PG (X.blk s H scope (compEnvC scope cl C X.env) fp) tg g)
    (ht : ∀ (s : Shared) (H : Hp) (C : Addr) (cl : List (Str × Addr)) (fp : List Addr), PTs (X.blk s H scope (compEnvC scope cl C X.env) fp) ifs tt)
    (hk : ∀ (s : Shared) (H : Hp) (C : Addr) (cl : List (Str × Addr)) (fp : List Addr), PE (X.blk s H scope (compEnvC scope cl C X.env) fp) kx tk)
    (hv : ∀ (s : Shared) (H : Hp) (C : Addr) (cl : List (Str × Addr)) (fp : List Addr), PE (X.blk s H scope (compEnvC scope cl C X.env) fp) vx tv) (hs : ∀ x, foldedSetIterable iter X.env x = pure x := by intro _; rfl) :
    PE X (.DictComp kx vx [⟨tg, iter, ifs, 0⟩] scope pos) (tDcN X.prog X.w wi g tt tk tv (own.map (·.2))) := by
  refine ⟨fun pins s σ H Q I hyp => ?_⟩
  rw [arm_eval_DictComp]
  have cells : ∀ y ∈ scope.names, y.2 = .free → ∃ c, X.env.cells.lookup y.1 = some c := fun y hy e => (ok.free y hy e).elim (fun k => I.ok.has _ (.inl k)) (fun k => I.ok.has _ (.inr k))
  refine wpAny_comprehension_free rfl hs (closure_ok cells) ok.kind (fun y hy e => by rw [ok.uniq y hy, e]) (thn (hi.run pins s σ H _ I hyp) fun xv s1 hx => thn hx fun itv s2 h2 => ?_)
  obtain ⟨it, fp, tn, J, H2, rfl, I2, T, st2, f2, q⟩ := h2
  refine wpAny_newObj_type (newEnv_comp ?_)
  have fresh : H2 s2.heap.objs.size = none := I2.hok.fresh (Nat.le_refl _)
  have np0 : ndP X.prog X.w s2.heap.objs.size [] (s2.heap.push noD) := by
    have I1 := I2.laid (a := s2.heap.objs.size) (o := .dT []) (t' := s2.toks) (fun _ _ q => Heap.get?_push_of_some _ q) (Nat.le_refl _) (dt_empty s2.heap I2.big)
    obtain ⟨_, hd, xs, rel, o, es, ep, ho, ex, hdt, he, _⟩ := I1.hok _ _ upd_same
    cases rel
    exact ⟨Nat.zero_le _, hd, [], .nil, o, es, ep, ho, ex, hdt, he, List.nodup_nil⟩
  obtain ⟨W, ⟨m0, w0⟩, turn⟩ := q _ fresh (ndP_mut np0)
  have I3 : Inv X pins σ (upd H2 s2.heap.objs.size (.ext (ndP X.prog X.w s2.heap.objs.size []))) { s2 with heap := s2.heap.push noD } := I2.laid (t' := s2.toks) (fun b o e => Heap.get?_push_of_some _ e) (Nat.le_refl _) (ndP_obj np0)
  have lt : ∀ b ∈ fp, b < s2.heap.objs.size := fun b hb => by
    obtain ⟨o, e, _⟩ := T.obj _ _ st2 b hb
    exact Heap.lt_size e
  have f3 : ∀ b ∈ fp, FpOk X pins (upd H2 s2.heap.objs.size (.ext (ndP X.prog X.w s2.heap.objs.size []))) b ∧ b < ({ s2 with heap := s2.heap.push noD } : Shared).heap.objs.size := fun b hb => ⟨⟨by rw [upd_ne (Nat.ne_of_lt (lt b hb))]; exact (f2 b hb).1, (f2 b hb).2⟩, by show b < (s2.heap.push noD).objs.size; rw [Heap.size_push]; exact Nat.lt_succ_of_lt (lt b hb)⟩
  have st3 : tn 0 ({ s2 with heap := s2.heap.push noD } : Shared).heap := T.keep _ _ _ st2 fun b _ o e => Heap.get?_push_of_some _ e
  clear np0
  generalize s2.heap.objs.size = D at w0 turn I3 f3 fresh ⊢
  generalize ({ s2 with heap := s2.heap.push noD } : Shared) = s3 at I3 f3 st3 ⊢
  generalize upd H2 D (.ext (ndP X.prog X.w D [])) = H3 at I3 f3 w0
  have I4 := block_start I3 ok hN f3
  have none3 : ∀ b ∈ fp, H3 b = none := fun b hb => (f3 b hb).1.1
  let cl := cellsFrom (s3.heap.objs.size + 1) scope.names (cloFrom X.env.cells scope.names [])
  have pg := hg s3 H3 s3.heap.objs.size cl fp
  have pt := ht s3 H3 s3.heap.objs.size cl fp
  have pk := hk s3 H3 s3.heap.objs.size cl fp
  have pv := hv s3 H3 s3.heap.objs.size cl fp
  show codeAny _ _ (.compStart (.DictComp kx vx [⟨tg, iter, ifs, 0⟩] scope pos) 0 (.ref it) (.ref D) (compEnvC scope cl s3.heap.objs.size X.env)) (compPost (model X.prog X.w) X.A X.xe none (EP X pins σ Q) (.ref D) s3.heap.objs.size) { s3 with heap := pushCells (s3.heap.push noD) scope.names }
  have st4 : tn 0 ({ s3 with heap := pushCells (s3.heap.push noD) scope.names } : Shared).heap := T.keep _ _ _ st3 fun b _ o e => pushCells_keeps _ _ _ _ (Heap.get?_push_of_some _ e)
  have loc : (compEnvC scope cl s3.heap.objs.size X.env).locals = s3.heap.objs.size := rfl
  generalize compEnvC scope cl s3.heap.objs.size X.env = ce at I4 pg pt pk pv loc ⊢
  generalize ({ s3 with heap := pushCells (s3.heap.push noD) scope.names } : Shared) = s4 at I4 st4 ⊢
  have still : ∀ {σ1 : L2.St} {H1 : Hp} {t : Shared}, Inv (X.blk s3 H3 scope ce fp) [] σ1 H1 t → (∀ b ∈ fp, H1 b = none) → ∀ b ∈ fp, FpOk (X.blk s3 H3 scope ce fp) [] H1 b := fun {σ1 H1 t} J1 hn b hb =>
    ⟨hn b hb, (J1.ok.exf b hb).1, J1.ok.exfs b hb, .inl hb, fun x c e => (J1.ok.exf b hb).2 x c e, fun p hp => absurd (show p ∈ ([] : List (Addr × Obj)) ++ [] from hp) (by simp)⟩
  have loop : codeAny (model X.prog X.w) X.A (.compLoop (.DictComp kx vx [⟨tg, iter, ifs, 0⟩] scope pos) 0 (.ref it) (.ref D) ce) (compPost (model X.prog X.w) X.A X.xe none (EP X pins σ Q) (.ref D) s3.heap.objs.size) s4 := by
    refine compLoop_anyD (fun n t => ∃ i H1, Inv (X.blk s3 H3 scope ce fp) [] (L2.wipe σ (own.map (·.2))) H1 t ∧ tn i t.heap ∧ (∀ b ∈ fp, H1 b = none) ∧ W i n H1) ?_ m0 ⟨0, H3, I4, st4, none3, w0⟩
    rintro n s5 ⟨i, H5, I5, st5, n5, w5⟩
    rcases turn i n H5 w5 with ⟨stop, fin⟩ | ⟨goes, Nx, hNx, step⟩
    · refine thnF (T.done (X.blk s3 H3 scope ce fp) rfl rfl rfl hc i [] s5 _ H5 (fun _ _ => False) I5 (still I5 n5) st5 stop) fun r s6 ⟨hr, I6⟩ => ?_
      subst hr
      have I7 : Inv X pins σ H5 s6 := I3.call' (ch := fp) I6.os I6.base I6.hok I6.bare fun b hb => ⟨(f3 b hb).1.2.2.2.1, (f3 b hb).1.2.1, (f3 b hb).1.2.2.2.2.1, (f3 b hb).1.2.2.2.2.2⟩
      have gone : H5 s3.heap.objs.size = none := by
        rw [← loc]
        exact I6.free
      obtain ⟨m, ns, _⟩ := I6.loc
      have ns : s6.heap.Ns s3.heap.objs.size m := by rw [← loc]; exact ns
      refine ⟨m, ns, fun h7 sb => ?_⟩
      obtain ⟨a0, a1, a2, a3, a4, a5⟩ := I3.fpOk (Nat.le_refl _) gone
      exact ⟨.ref D, H5, I7.turned (t' := s6.toks) (fun b o hb e => (sb.2 b hb).trans e) a0 a1 a3 a4 a5, rfl, fin⟩
    · refine thnF (T.item (X.blk s3 H3 scope ce fp) rfl rfl rfl hc i [] s5 _ H5 (fun _ _ => False) I5 (still I5 n5) st5 goes) fun r s6 ⟨u, hr, h6⟩ => ?_
      subst hr
      refine thnF h6 fun _ s7 ⟨x, H7, I7, r7, y7, st7, n7⟩ => ?_
      refine thnF (pg.run _ s7 _ H7 x u _ (I7.pinned (still I7 n7) (T.obj _ _ st7)) r7 (step x H7 y7)) fun _ s8 ⟨σ8, H8, I8, w8, q8⟩ => ?_
      refine thnF (pt.run _ s8 σ8 H8 _ I8 q8) fun b s9 ⟨H9, I9, q9⟩ => ?_
      have done : ∀ {t : Shared} {H1 : Hp}, Inv (X.blk s3 H3 scope ce fp) ([] ++ pinsAt fp s7.heap) σ8 H1 t → Nx H1 → ∃ m, m < n ∧ ∃ i H1, Inv (X.blk s3 H3 scope ce fp) [] (L2.wipe σ (own.map (·.2))) H1 t ∧ tn i t.heap ∧ (∀ b ∈ fp, H1 b = none) ∧ W i m H1 := fun {t H1} J1 nx => by
        obtain ⟨m1, hm, w1⟩ := hNx H1 nx
        have pinned : ∀ b ∈ fp, ∀ o, s7.heap.get? b = some o → t.heap.get? b = some o ∧ H1 b = none := fun b hb o e => by
          have z := J1.pin (b, o) (List.mem_append_right _ (List.mem_append_right _ (mem_pinsAt hb e)))
          exact ⟨z.1, z.2.1⟩
        have len : (L2.wipe σ (own.map (·.2))).length = σ8.length := by rw [← w8, wipe_length]
        refine ⟨m1, hm, i + 1, H1, (J1.unpinned (pins := [])).weak len (fun j v e => (wipe_some (by rw [w8]; exact e)).1), T.keep _ _ _ st7 fun b hb o e => (pinned b hb o e).1, fun b hb => ?_, w1⟩
        obtain ⟨o, e, _⟩ := T.obj _ _ st7 b hb
        exact (pinned b hb o e).2
      cases b with
      | false =>
        simp only [Bool.false_eq_true, if_false] at q9 ⊢
        exact done I9 q9
      | true =>
        simp only [if_true] at q9 ⊢
        refine thnF (pk.run _ s9 σ8 H9 _ I9 q9) fun z s10 ⟨yk, H10, I10, r10, q10⟩ => thnF (pv.run _ s10 σ8 H10 _ I10 q10) fun z2 s11 ⟨yv, H11, I11, r11, kvs, k, a, ek, hk11, dp, ks, hD11, few, nx⟩ => ?_
        subst ek
        have r10 : RelV (.ref a) z := r10
        exact n_dictSet (X := X.blk s3 H3 scope ce fp) hu I11 hD11 few ks hk11 dp r10 r11 fun s12 mo I12 => done I12 (nx mo)
  exact codeAny_compStart_dict loop (T.self X.A 0 _ _ _ st4 loop)
end
end KW
set_option Elab.async false
set_option linter.all false
set_option maxRecDepth 100000
set_option maxHeartbeats 3200000
namespace KW
open PySem PySem.Spec PyProof.Rows L2
end KW
set_option Elab.async false
set_option linter.all false
set_option maxRecDepth 100000
set_option maxHeartbeats 3200000
namespace KN
open PySem PySem.Spec PyProof.Rows L2 KW
theorem fm_congr {α β : Type} {f g : α → Option β} : ∀ {l : List α}, (∀ x ∈ l, f x = g x) → l.filterMap f = l.filterMap g
  | [], _ => rfl
  | x :: l, h => by
    rw [List.filterMap_cons, List.filterMap_cons, h x List.mem_cons_self, fm_congr fun y hy => h y (List.mem_cons_of_mem _ hy)]
theorem pick_rev (xs : List Value) : slicePick xs.toArray none none (some (-1)) = xs.reverse.toArray := by
  have e : sliceBounds none none (some (-1)) xs.toArray.size = ((xs.length : Int) - 1, -1, -1) := by
    simp only [sliceBounds, Option.getD_some, List.size_toArray, show ¬ ((-1 : Int) > 0) by decide, if_false]
  have r : sliceRange ((xs.length : Int) - 1) (-1) (-1) = (List.range xs.length).map fun k => xs.length - 1 - k := by
    unfold sliceRange
    have c : (if (-1 : Int) > 0 then (if (xs.length : Int) - 1 < -1 then ((-1 : Int) - ((xs.length : Int) - 1) + (-1) - 1) / (-1) else 0) else (if (xs.length : Int) - 1 > -1 then ((xs.length : Int) - 1 - (-1) - (-1) - 1) / (-(-1)) else 0)) = (xs.length : Int) := by
      rw [if_neg (by decide)]
      by_cases h : (xs.length : Int) - 1 > -1
      · rw [if_pos h, show (-(-1 : Int)) = 1 by decide, Int.ediv_one]
        omega
      · rw [if_neg h]
        omega
    dsimp only
    rw [c]
    refine List.map_congr_left fun k hk => ?_
    have lt := List.mem_range.mp hk
    omega
  unfold slicePick
  rw [e]
  dsimp only
  rw [r]
  congr 1
  rw [List.filterMap_map]
  have f : (List.range xs.length).filterMap ((fun i : Nat => xs.toArray[i]?) ∘ fun k => xs.length - 1 - k) = (List.range xs.reverse.length).filterMap fun k => xs.reverse[k]? := by
    rw [List.length_reverse]
    refine fm_congr fun k hk => ?_
    have lt := List.mem_range.mp hk
    show xs.toArray[xs.length - 1 - k]? = _
    rw [List.getElem?_toArray, List.getElem?_reverse lt]
  rw [f]
  have g : ∀ ys : List Value, (List.range ys.length).filterMap (fun k => ys[k]?) = ys := fun ys => by
    induction ys with
    | nil => rfl
    | cons y ys ih =>
      rw [List.length_cons, List.range_succ_eq_map, List.filterMap_cons, List.filterMap_map]
      show y :: List.filterMap (fun k => ys[k]?) (List.range ys.length) = _
      rw [ih]
  exact g _
section
variable {X : Cx} {e es : Expr} {te ts : TE} {p2 pos : Pos} {K : PySem.W.Frag}
def rRev (K : PySem.W.Frag) : V → Hp → VK → Prop := fun x H Q => ∃ a xs, x = .ref a ∧ SqL K H a xs ∧ ∀ p, H p = none → Q (.ref p) (upd H p (.lst xs.reverse))
def tRev (K : PySem.W.Frag) (te ts : TE) : TE := fun σ H Q => te σ H fun x H1 => ts σ H1 fun y H2 => y = .int (-1) ∧ rRev K x H2 Q
theorem pe_rev (hK : X.K = K) (he : PE X e te) (hs : PE X es ts) : PE X (.Subscript e (.Slice none none (some es) p2) pos) (tRev K te ts) := by
  subst hK
  refine ⟨fun pins s σ H Q I h => ?_⟩
  refine Subscript_ (thn (he.run pins s σ H _ I h) fun v s1 ⟨x, H1, I1, r1, q1⟩ => ?_)
  refine wpAny_Slice ?_
  rw [evalPart_none]
  refine wpAny_pure ?_
  refine wpAny_pure ?_
  rw [evalPart_some]
  refine thn (hs.run pins s1 σ H1 _ I1 q1) fun u s3 ⟨y, H3, I3, r3, ey, q3⟩ => ?_
  subst ey
  obtain ⟨tk, rfl⟩ := r3
  obtain ⟨a, xs, rfl, hx, q⟩ := q3
  cases r1
  have I4 : Inv X pins σ H3 { s3 with heap := s3.heap.push { cls := .type "slice", data := .fields #[.none, .none, .int (-1) tk] } } := I3.kept (t' := s3.toks) fun b ob q => Heap.get?_push_of_some _ q
  obtain ⟨its, r, ht, hz⟩ := I4.list hx
  have hlen := r.length
  refine tail_any (ops := [.ref a, .ref s3.heap.objs.size]) ht.isList.typeIs slot_list_getitem.lookup ?_ (by with_unfolding_all rfl)
  refine wpAny_getItem_list_slice ht.isList (Heap.IsSliceOf.new ..) .none .none (.int (-1) tk) (by simp) ?_ (by rw [List.size_toArray] <;> omega)
  rw [pick_rev]
  refine ⟨.ref _, _, I4.laid (t' := s3.toks) (o := .lst xs.reverse) (fun b ob q => Heap.get?_push_of_some _ q) (Nat.le_refl _) ?_, rfl, q _ (I4.hok.fresh (Nat.le_refl _))⟩
  exact ⟨by rw [List.length_reverse]; exact hz, _, 0, r.reverse, Heap.get?_push_size _ rfl⟩
end
end KN
set_option Elab.async false
set_option linter.all false
set_option maxRecDepth 100000
set_option maxHeartbeats 1000000
namespace KD
open PySem PySem.Spec PyProof.Rows L2 KW
end KD
set_option Elab.async false
set_option linter.all false
set_option maxRecDepth 100000
set_option maxHeartbeats 1000000
namespace KD
open PySem PySem.Spec PyProof.Rows L2 KW
end KD
set_option Elab.async false
set_option linter.all false
set_option maxRecDepth 100000
set_option maxHeartbeats 1000000
namespace KD
open PySem PySem.Spec PyProof.Rows L2 KW
end KD
set_option Elab.async false
set_option linter.all false
set_option maxRecDepth 100000
set_option maxHeartbeats 1000000
namespace KW
open PySem PySem.Spec PyProof.Rows L2
end KW
namespace KD
open PySem PySem.Spec PyProof.Rows L2 KW
end KD
set_option Elab.async false
set_option linter.all false
set_option maxRecDepth 100000
set_option maxHeartbeats 1000000
namespace KW
open PySem PySem.Spec PyProof.Rows L2
end KW
namespace KD
open PySem PySem.Spec PyProof.Rows L2 KW
end KD
set_option Elab.async false
set_option linter.all false
set_option maxRecDepth 100000
set_option maxHeartbeats 3200000
namespace KW
open PySem PySem.Spec PyProof.Rows L2
end KW
set_option Elab.async false
set_option linter.all false
set_option maxRecDepth 100000
set_option maxHeartbeats 1000000
namespace KD
open PySem PySem.Spec PyProof.Rows L2 KW
section
variable {Ω : Obs} {A : Am} {E : XK} {K : PySem.W.Frag} {P : Program} {w : World} {tk tv td ta : TE} {mk mv md ma : M D}
def gLenN : List D → M D := fun ds => ⟨fun _ Q _ => ∃ kvs, ds = [.ndb kvs] ∧ Q (.int ((kvs.length : Nat) : Int)), fun h _ ⟨kvs, a, q⟩ => ⟨kvs, a, h _ q⟩⟩
theorem c_lenN (nω : NdΩ Ω P w) : CallD Ω E (fun xs H Q => ∃ (a : Addr) (kvs : NX), xs = [.ref a] ∧ Rd H a (.ext (ndP P w a kvs)) ∧ Q (.int kvs.length) H) gLenN := fun A G H vs ds Q env Ex fr f r q => by
  obtain ⟨kvs, rfl, q⟩ := q
  obtain ⟨v, rfl, rv⟩ := r.one
  cases rv with
  | ndb ha rn =>
    rw [nω.eq] at ha
    refine ⟨_, _, rfl, .inr ⟨_, fr.sub _ _ ha⟩, ?_⟩
    rw [rn.len]
    exact q _ _ _ (.refl fr) (.int _)
def mDcNd (mi : M (List D)) (g : GD) (mt : M Bool) (mk mv : M D) (vs : List Nat) : M D :=
  ⟨fun env Q Ex => mi.wp env (fun items => items.length ≤ 900000 ∧ ∃ Iv : Nat → List (NK × D) → Prop, Iv 0 [] ∧ (∀ i x ys, items[i]? = some x → Iv i ys → g.wp x (wipeE env vs) fun env2 => mt.wp env2 (fun b => if b = true then mk.wp env2 (fun kd => mv.wp env2 (fun y => ∃ k, nkT kd = some k ∧ k.depth ≤ 8 ∧ Iv (i + 1) (putND ys k y)) (fun _ => False)) (fun _ => False) else Iv (i + 1) ys) (fun _ => False)) ∧ ∀ ys, smallN ys → Iv items.length ys → Q (.ndb ys)) Ex,
   fun h hx q => mi.mono2 (fun items ⟨l, Iv, h0, hs, hd⟩ => ⟨l, Iv, h0, hs, fun ys y z => h _ (hd ys y z)⟩) hx q⟩
theorem dn_dcNd (nω : NdΩ Ω P w) {wi : TI} {mi : M (List D)} {g : TG} {gd : GD} {ts : List Nat} {tt : TT} {mt : M Bool} {tk tv : TE} {mk mv : M D} {vs : List Nat} (hi : DenI Ω A E wi mi) (hg : DenG Ω A g gd ts) (ht : DenT Ω A L2.E0 tt mt) (hk : Den Ω A L2.E0 tk mk) (hv : Den Ω A L2.E0 tv mv) (hts : ∀ i ∈ ts, i ∈ vs) :
    Den Ω A E (KW.tLkE (KW.tDcN P w wi g tt tk tv vs)) (mDcNd mi gd mt mk mv vs) := fun G σ env H Q Ex k f q =>
  hi G σ env H _ Ex k f (mi.mono (fun items q G1 J H1 t1 w' => by
    obtain ⟨le, Iv, h0, hs, hd⟩ := q
    intro L hL mo0
    have tA := Tr.allocOwn t1.fr (o := .ext (ndP P w L [])) hL
    have fresh : FreshO A G H L := .of t1 hL
    refine loop_it w' (fun i H' => ∃ (G' : Hp) (ys : List (NK × D)) (us : NX), Tr A G H G' H' ∧ Same G1 G' ∧ H' L = some (.ext (ndP P w L us)) ∧ MutO (.ext (ndP P w L us)) ∧ RepN Ω G' us ys ∧ smallN ys ∧ G' L = none ∧ A.nw L ∧ ys.length ≤ i ∧ Iv i ys) ?_ ?_ ?_ ?_
    · exact ⟨G1, [], [], t1.trans tA, Same.refl _, upd_same, mo0, .nil, .nil, t1.fr.sub.free hL, A.fr t1.fr.inv hL, Nat.zero_le _, h0⟩
    · rintro i H' _ ⟨G', ys, us, tr', s', _⟩
      exact s'.trans tr'.fr.sub
    · rintro i x H2 H3 hlt ⟨G', ys, us, tr', s', hL', mL, ru, sm, gL, nL, ly, inv⟩ ⟨d, hd', y⟩
      obtain ⟨G3, t3, rx⟩ : ∃ G3, Tr A G' H2 G3 H3 ∧ Rep Ω G3 x d := by
        rcases y with ⟨rfl, rx⟩ | ⟨T, ws, ds, rfl, rfl, hT, rfl, rws⟩
        · exact ⟨G', .refl tr'.fr, rx.mono s'⟩
        · have t3 := Tr.alloc tr'.fr (o := .tup ws) hT (fun _ => by intro z; cases z)
          exact ⟨_, t3, .tup upd_same (rws.mono (s'.trans t3.sub))⟩
      have k3 := k.tr (tr'.trans t3)
      refine hg G3 _ _ H3 x d _ (k3.wipe vs) rx (gd.mono (fun env2 q σ2 k2 wz _ => ⟨?_, ?_⟩) (hs i d ys hd' inv))
      · rw [wz vs hts]
        exact wipe_wipe vs fun _ h => h
      refine ht G3 σ2 env2 H3 _ _ k2 rf_no (mt.mono (fun b q G4 H4 t4 => ?_) q)
      have t34 := t3.trans t4
      cases b with
      | false =>
        have z := t34.own L _ mL hL' nL gL
        exact ⟨G4, ys, us, tr'.trans t34, s'.trans t34.sub, z.1, mL, ru.mono t34.sub, sm, z.2, nL, by omega, q⟩
      | true =>
        refine hk G4 σ2 env2 H4 _ _ (k2.tr t4) rf_no (mk.mono (fun kd q G5 v5 H5 t5 r5 => hv G5 σ2 env2 H5 _ _ ((k2.tr t4).tr t5) rf_no (mv.mono (fun yd q G6 v6 H6 t6 r6 => ?_) q)) q)
        obtain ⟨key, ek, dk, q⟩ := q
        have t36 := t34.trans (t5.trans t6)
        have z := t36.own L _ mL hL' nL gL
        obtain ⟨b, rfl, kb⟩ := r5.nkt ek
        have kb6 := kb.mono t6.sub
        have ru6 := ru.mono t36.sub
        refine ⟨us, key, b, rfl, kb6.mono t6.fr.sub, dk, ru6.keys t6.fr.sub sm, z.1, by rw [ru.len]; omega, fun mo => ?_⟩
        have tr6 := trTurn (u := .ext (ndP P w L (putN us key b v6))) (tr'.trans t36) fresh z.1 mL z.2 nL
        exact ⟨G6, putND ys key yd, putN us key b v6, tr6, s'.trans t36.sub, upd_same, mo, ru6.put kb6 r6, sm.put dk, z.2, nL, by have := putND_len ys key yd; omega, q⟩
    · rintro H' ⟨G', ys, us, tr', s', hL', mL, ru, sm, gL, nL, ly, inv⟩
      refine ⟨L, _, rfl, hL', trivial, fun od => ?_⟩
      exact hd ys sm inv _ _ _ (trLock (u := .frz od (.ext (ndP P w L us))) tr' fresh hL' mL gL nL trivial) (.ndb (vs := us) (by rw [nω.eq]; exact upd_same) (ru.mono (sameNew gL)))) q)
end
end KD
set_option Elab.async false
set_option linter.all false
set_option maxRecDepth 100000
set_option maxHeartbeats 3200000
namespace KW
open PySem PySem.Spec PyProof.Rows L2
end KW
set_option Elab.async false
set_option linter.all false
set_option maxRecDepth 100000
set_option maxHeartbeats 3200000
namespace KW
open PySem PySem.Spec PyProof.Rows L2 SrtO
section
variable {prog : Program} {w : World} {A : Around} {E : Value → Shared → Prop} {s : Shared}
theorem reads_ints {h : Heap} : ∀ {ks : List Int} {its : List Value}, Vals (ks.map V.int) its → ReadsAll h its (ks.map .int) []
  | [], _, r => by
    cases r
    exact .nil
  | k :: ks, _, r => by
    rw [List.map_cons] at r
    cases r with
    | cons r1 r2 =>
      obtain ⟨t, rfl⟩ := r1
      exact .cons (as := []) (bs := []) (.int k t) (reads_ints r2)
theorem lexL_lt : ∀ xs ys : List Int, decide (xs < ys) = lexL xs ys
  | [], [] => by decide
  | [], _ :: _ => by simp [lexL]
  | _ :: _, [] => by simp [lexL]
  | x :: xs, y :: ys => by
    have ih := lexL_lt xs ys
    rw [lexL, ← ih]
    by_cases e : x = y
    · subst e
      rw [if_pos rfl]
      exact decide_eq_decide.mpr (by rw [List.cons_lt_cons_iff]; simp)
    · rw [if_neg e]
      exact decide_eq_decide.mpr (by rw [List.cons_lt_cons_iff]; simp [e])
end
end KW
namespace L2
open PySem PySem.Spec PyProof.Rows
end L2
set_option Elab.async false
set_option linter.all false
set_option maxRecDepth 100000
set_option maxHeartbeats 1000000
namespace KD
open PySem PySem.Spec PyProof.Rows L2 KW
section
variable {Ω : Obs} {A : Am} {E : XK} {ta : TE} {ma : M D} {K : PySem.W.Frag}
def isNonD : D → Bool
  | .non => true
  | _ => false
theorem Rep.isNon {G : Hp} {v : V} {d : D} (r : Rep Ω G v d) : decide (v = .non) = isNonD d := by
  cases r <;> first | rfl | exact decide_eq_false (fun z => nomatch z)
def gIsN (f : Bool → Bool) (x y : D) : M D := ⟨fun _ Q _ => y = .non ∧ Q (.bl (f (isNonD x))), fun h _ ⟨a, q⟩ => ⟨a, h _ q⟩⟩
theorem op_notNd : OpD Ω (fun x y H Q => y = .non ∧ Q (.bl (!decide (x = .non))) H) (gIsN not) := fun A G H x y dx dy Q env Ex fr rx ry q => by
  obtain ⟨rfl, q⟩ := q
  cases ry
  refine ⟨rfl, ?_⟩
  rw [rx.isNon]
  exact q _ _ _ (.refl fr) (.bl _)
end
end KD
set_option Elab.async false
set_option linter.all false
set_option maxRecDepth 100000
set_option maxHeartbeats 1000000
namespace KD
open PySem PySem.Spec PyProof.Rows L2 KW
end KD
set_option Elab.async false
set_option linter.all false
set_option maxRecDepth 100000
set_option maxHeartbeats 3200000
namespace KW
open PySem PySem.Spec PyProof.Rows L2
end KW
set_option Elab.async false
set_option linter.all false
set_option maxRecDepth 100000
set_option maxHeartbeats 1000000
namespace KD
open PySem PySem.Spec PyProof.Rows L2 KW
end KD
set_option Elab.async false
set_option linter.all false
set_option maxRecDepth 100000
set_option maxHeartbeats 1000000
namespace KD
open PySem PySem.Spec PyProof.Rows L2 KW
end KD
set_option Elab.async false
set_option linter.all false
set_option maxRecDepth 100000
set_option maxHeartbeats 3200000
namespace KN
open PySem PySem.Spec PyProof.Rows L2 TS KW
mutual
/-- numbers and tuples alone -/
def numK : NestedKey → Bool
  | .num _ => true
  | .tup ks => numKs ks
  | _ => false
def numKs : List NestedKey → Bool
  | [] => true
  | k :: ks => numK k && numKs ks
end
abbrev nhash (_P : Program) (w : World) (k : NestedKey) : Int := k.hash w
/-- the tuple at a is the key k -/
structure IsN (P : Program) (w : World) (h : Heap) (k : NestedKey) (a : Addr) : Prop where
  is : NestedIs h k (.ref a)
  deep : k.depth ≤ 7
  nums : numK k = true
section
variable {P : Program} {w : World} {A : Around} {E : Value → Shared → Prop} {s : Shared}
theorem isN_same {h h' : Heap} {k : NestedKey} {a b : Addr} {o : Obj} {es : Array (Int × Value)} {ep : Nat} {t : SetTable} (hb : IsN P w h k b) (ho : h.get? a = some o) (hd : o.data = .set es ep t) (hs : Heap.SameBut a h h') : IsN P w h' k b :=
  ⟨NestedIs.at (fun b ob vs n hb hc => by
    refine (hs.2 b fun e => ?_).trans hb
    subst e
    rw [ho] at hb
    cases hb
    rw [hd] at hc
    cases hc) k _ hb.is, hb.deep, hb.nums⟩
theorem isN_keep {h h' : Heap} {k : NestedKey} {b : Addr} (x : IsN P w h k b) (hk : ∀ c o, h.get? c = some o → h'.get? c = some o) : IsN P w h' k b :=
  ⟨NestedIs.at (fun a o vs n e _ => hk a o e) k _ x.is, x.deep, x.nums⟩
theorem pyHash_N {k : NestedKey} {a : Addr} {Q : Int → Shared → Prop} (hu : A.units + 8 < cLine) (hk : IsN P w s.heap k a) (h : Q (nhash P w k) { s with toks := s.toks + k.draws }) : wpAny (model P w) A (pyHash (.ref a)) Q E s :=
  pyHash_key _ _ _ _ _ hk.is (by have := hk.deep; omega) h
theorem eqBool_N {x y : NestedKey} {a b : Addr} {Q : Bool → Shared → Prop} (hu : A.units + 8 < cLine) (hx : IsN P w s.heap x a) (hy : IsN P w s.heap y b) (h : Q (decide (x = y)) s) : wpAny (model P w) A (eqBool (.ref a) (.ref b)) Q E s :=
  (nestedKind P w).eqBool (A := A) hu ⟨hx.is, by have := hx.deep; omega⟩ ⟨hy.is, by have := hy.deep; omega⟩ h
theorem quiet_N {k : NestedKey} {a : Addr} {Q : Bool → Shared → Prop} (hk : IsN P w s.heap k a) (h : Q true s) : wpAny (model P w) A (eqIsQuiet 8 (.ref a)) Q E s :=
  (nestedKind P w).quiet (A := A) ⟨hk.is, by have := hk.deep; omega⟩ h
theorem hashBy_bool (n : Nat) (b : Bool) : hashByValue n (.bool b) = pure true := by
  cases n <;> rfl
theorem ofAClass_bool (n : Nat) (b : Bool) : ofAClassStatement n (.bool b) = pure false := by
  cases n <;> rfl
mutual
theorem hashBy_key : ∀ (k : NestedKey) (v : Value) (n : Nat) (s : Shared) (A : Around) (E : Value → Shared → Prop) (Q : Bool → Shared → Prop), NestedIs s.heap k v → numK k = true → k.depth ≤ n → Q true s → wpAny (model P w) A (hashByValue n v) Q E s
  | .none, _, n, s, A, E, Q, x, e, _, _ => by simp only [numK] at e; cases e
  | .text y, _, n, s, A, E, Q, x, e, _, _ => by simp only [numK] at e; cases e
  | .num i, _, n, s, A, E, Q, x, _, _, h => by
    cases x with
    | bool _ => rw [hashBy_bool]; exact wpAny_pure h
    | int _ t => rw [hashBy_int]; exact wpAny_pure h
  | .tup ks, _, n, s, A, E, Q, x, e, hn, h => by
    cases x with
    | @tup a o vs m _ hg hc hd hk =>
      simp only [NestedKey.depth] at hn
      simp only [numK] at e
      cases n with
      | zero => omega
      | succ n =>
        have hT : s.TypeIs (.ref a) "tuple" := ⟨o, hg, hc⟩
        unfold hashByValue
        refine wpAny_bind (wpAny_specialOf hT F.slot_tuple_hash.lookup ?_)
        show wpAny _ _ (seqItems? (.ref a) >>= _) _ _ s
        refine wpAny_bind (wpAny_seqItems hg hd ?_)
        refine wpAny_bind ?_
        show wpAny _ _ (forIn vs _ _) _ _ s
        rw [← Array.forIn_toList]
        refine wpAny_forIn_list _ (fun rest r s' => r.1 = none ∧ s' = s ∧ ∀ v ∈ rest, ∀ (A : Around) (E : Value → Shared → Prop) (Q : Bool → Shared → Prop), Q true s → wpAny (model P w) A (hashByValue n v) Q E s) _ ?_ ?_ _ _ ⟨rfl, rfl, fun v hv A E Q q => hashBy_keys ks _ n s A E Q hk e (by omega) v hv q⟩
        · rintro v rest r s' ⟨hr, rfl, hall⟩
          refine wpAny_bind (hall v List.mem_cons_self _ _ _ ?_)
          simp only [Bool.not_true, Bool.false_eq_true, if_false]
          exact wpAny_pure ⟨rfl, rfl, fun u hu' => hall u (List.mem_cons_of_mem _ hu')⟩
        · rintro ⟨r1, r2⟩ s' ⟨hr, rfl, _⟩
          simp only at hr
          subst hr
          exact wpAny_pure h
theorem hashBy_keys : ∀ (ks : List NestedKey) (vs : List Value) (n : Nat) (s : Shared) (A : Around) (E : Value → Shared → Prop) (Q : Bool → Shared → Prop), NestedAll s.heap ks vs → numKs ks = true → NestedKey.depthAll ks ≤ n → ∀ v ∈ vs, Q true s → wpAny (model P w) A (hashByValue n v) Q E s
  | [], _, n, s, A, E, Q, x, _, _, v, hv, _ => by cases x; cases hv
  | k :: ks, _, n, s, A, E, Q, x, e, hn, v, hv, q => by
    cases x with
    | cons x1 x2 =>
      simp only [NestedKey.depthAll] at hn
      simp only [numKs, Bool.and_eq_true] at e
      rcases List.mem_cons.mp hv with z | hv
      · rw [z]; exact hashBy_key k _ n s A E Q x1 e.1 (by omega) q
      · exact hashBy_keys ks _ n s A E Q x2 e.2 (by omega) v hv q
end
mutual
theorem ofAClass_key : ∀ (k : NestedKey) (v : Value) (n : Nat) (s : Shared) (A : Around) (E : Value → Shared → Prop) (Q : Bool → Shared → Prop), NestedIs s.heap k v → numK k = true → k.depth ≤ n → Q false s → wpAny (model P w) A (ofAClassStatement n v) Q E s
  | .none, _, n, s, A, E, Q, x, e, _, _ => by simp only [numK] at e; cases e
  | .text y, _, n, s, A, E, Q, x, e, _, _ => by simp only [numK] at e; cases e
  | .num i, _, n, s, A, E, Q, x, _, _, h => by
    cases x with
    | bool _ => rw [ofAClass_bool]; exact wpAny_pure h
    | int _ t => rw [ofAClass_int]; exact wpAny_pure h
  | .tup ks, _, n, s, A, E, Q, x, e, hn, h => by
    cases x with
    | @tup a o vs m _ hg hc hd hk =>
      simp only [NestedKey.depth] at hn
      simp only [numK] at e
      cases n with
      | zero => omega
      | succ n =>
        have hT : s.TypeIs (.ref a) "tuple" := ⟨o, hg, hc⟩
        unfold ofAClassStatement
        refine wpAny_bind (wpAny_typeOf hT ?_)
        dsimp only
        have e0 : (("tuple" : String) == "tuple") = true := by decide
        simp only [e0, if_true, Bool.not_true, Bool.false_eq_true, if_false]
        try refine wpAny_bind (wpAny_pure ?_)
        try simp only [Bool.not_true, Bool.false_eq_true, if_false]
        show wpAny _ _ (seqItems? (.ref a) >>= _) _ _ s
        refine wpAny_bind (wpAny_seqItems hg hd ?_)
        dsimp only
        refine wpAny_bind ?_
        show wpAny _ _ (forIn vs _ _) _ _ s
        rw [← Array.forIn_toList]
        refine wpAny_forIn_list _ (fun rest r s' => r.1 = none ∧ s' = s ∧ ∀ v ∈ rest, ∀ (A : Around) (E : Value → Shared → Prop) (Q : Bool → Shared → Prop), Q false s → wpAny (model P w) A (ofAClassStatement n v) Q E s) _ ?_ ?_ _ _ ⟨rfl, rfl, fun v hv A E Q q => ofAClass_keys ks _ n s A E Q hk e (by omega) v hv q⟩
        · rintro v rest r s' ⟨hr, rfl, hall⟩
          refine wpAny_bind (hall v List.mem_cons_self _ _ _ ?_)
          simp only [Bool.false_eq_true, if_false]
          exact wpAny_pure ⟨rfl, rfl, fun u hu' => hall u (List.mem_cons_of_mem _ hu')⟩
        · rintro ⟨r1, r2⟩ s' ⟨hr, rfl, _⟩
          simp only at hr
          subst hr
          exact wpAny_pure h
theorem ofAClass_keys : ∀ (ks : List NestedKey) (vs : List Value) (n : Nat) (s : Shared) (A : Around) (E : Value → Shared → Prop) (Q : Bool → Shared → Prop), NestedAll s.heap ks vs → numKs ks = true → NestedKey.depthAll ks ≤ n → ∀ v ∈ vs, Q false s → wpAny (model P w) A (ofAClassStatement n v) Q E s
  | [], _, n, s, A, E, Q, x, _, _, v, hv, _ => by cases x; cases hv
  | k :: ks, _, n, s, A, E, Q, x, e, hn, v, hv, q => by
    cases x with
    | cons x1 x2 =>
      simp only [NestedKey.depthAll] at hn
      simp only [numKs, Bool.and_eq_true] at e
      rcases List.mem_cons.mp hv with z | hv
      · rw [z]; exact ofAClass_key k _ n s A E Q x1 e.1 (by omega) q
      · exact ofAClass_keys ks _ n s A E Q x2 e.2 (by omega) v hv q
end
theorem hashBy_N {k : NestedKey} {b : Addr} {Q : Bool → Shared → Prop} (hk : IsN P w s.heap k b) (h : Q true s) : wpAny (model P w) A (hashByValue 8 (.ref b)) Q E s := hashBy_key k _ 8 s A E Q hk.is hk.nums (by have := hk.deep; omega) h
theorem ofAClass_N {k : NestedKey} {b : Addr} {Q : Bool → Shared → Prop} (hk : IsN P w s.heap k b) (h : Q false s) : wpAny (model P w) A (ofAClassStatement 8 (.ref b)) Q E s := ofAClass_key k _ 8 s A E Q hk.is hk.nums (by have := hk.deep; omega) h
/-- a search among tuples shows nothing -/
theorem seen_N {k : NestedKey} {b : Addr} {Q : Bool → Shared → Prop} (hk : IsN P w s.heap k b) {ys : List Value} (hy : ∀ y ∈ ys, ∃ k' c, y = Value.ref c ∧ IsN P w s.heap k' c) (h : Q false s) :
    wpAny (model P w) A (searchCouldBeSeen (.ref b) ys) Q E s := by
  unfold searchCouldBeSeen
  refine wpAny_bind ?_
  refine wpAny_forIn_list _ (fun rest r s' => r.1 = none ∧ s' = s ∧ ∀ y ∈ rest, ∃ k' c, y = Value.ref c ∧ IsN P w s.heap k' c) _ ?_ ?_ _ _ ⟨rfl, rfl, hy⟩
  · rintro v rest r s' ⟨hr, rfl, hall⟩
    obtain ⟨k', c, rfl, hc⟩ := hall v List.mem_cons_self
    have rest' : ∀ y ∈ rest, ∃ k' c, y = Value.ref c ∧ IsN P w s'.heap k' c := fun u hu' => hall u (List.mem_cons_of_mem _ hu')
    dsimp only
    by_cases hv : (b == c || (carriedByValue (.ref b) && carriedByValue (.ref c))) = true
    · refine wp_if_pos hv ?_
      exact wpAny_pure ⟨rfl, rfl, rest'⟩
    · refine wp_if_neg hv ?_
      refine wpAny_bind (quiet_N hk ?_)
      simp only [Bool.not_true, Bool.false_eq_true, if_false]
      refine wpAny_bind (quiet_N hc ?_)
      simp only [Bool.not_true, Bool.false_eq_true, if_false]
      refine wpAny_bind (ofAClass_N hk ?_)
      simp only [Bool.false_eq_true, if_false]
      refine wpAny_bind (ofAClass_N hc ?_)
      simp only [Bool.false_eq_true, if_false]
      exact wpAny_pure ⟨rfl, rfl, rest'⟩
  · rintro ⟨r1, r2⟩ s' ⟨hr, rfl, _⟩
    simp only at hr
    subst hr
    exact wpAny_pure h
variable {t : SetTable}
/-- the place after so many steps -/
def walkP (P : Program) (w : World) (t : SetTable) (k : NestedKey) (c : Nat) : SetTable.Probe := nth t.mask (runAt t.mask (SetTable.bits (nhash P w k) % (t.mask + 1)) (SetTable.bits (nhash P w k))) c
theorem walkP_on (k : NestedKey) (c q : Nat) : nth t.mask (walkP P w t k c) q = walkP P w t k (c + q) := (nth_add t.mask c _ q).symm
theorem walkP_j (k : NestedKey) (c : Nat) : (walkP P w t k c).j = way t.mask (nhash P w k) c := rfl
end
/-- a slot, a tuple's address, its numbers -/
abbrev En := Nat × Addr × NestedKey
section
variable {P : Program} {w : World}
def esOf (P : Program) (w : World) (T : List En) : List (Int × Value) := T.map fun e => (nhash P w e.2.2, Value.ref e.2.1)
structure Laid (P : Program) (w : World) (t : SetTable) (T : List En) : Prop where
  pl : t.place.toList = T.map (·.1)
  ris : Ris (T.map (·.1))
  dm : t.dummies = #[]
  mask : Mk2 t.mask
  le : ∀ e ∈ T, e.1 ≤ t.mask
  ways : ∀ e ∈ T, ∃ k, way t.mask (nhash P w e.2.2) k = e.1 ∧ ∀ q, q < k → way t.mask (nhash P w e.2.2) q ∈ T.map (·.1)
theorem Laid.ris' {t : SetTable} {T : List En} (Z : Laid P w t T) : Ris t.place.toList := by
  rw [Z.pl]
  exact Z.ris
theorem Laid.size {t : SetTable} {T : List En} (Z : Laid P w t T) : t.place.size = T.length := by
  have e := congrArg List.length Z.pl
  rw [List.length_map] at e
  exact e
theorem Laid.fill {t : SetTable} {T : List En} (Z : Laid P w t T) : t.fill = T.length := by
  unfold SetTable.fill
  rw [Z.size, Z.dm]
  rfl
/-- where a new one goes -/
def insE (T : List En) (p : Nat) (e : En) : List En := T.take p ++ e :: T.drop p
theorem insE_map {α : Type} (f : En → α) (T : List En) (p : Nat) (e : En) : (insE T p e).map f = (T.map f).take p ++ f e :: (T.map f).drop p := by
  unfold insE
  rw [List.map_append, List.map_cons, List.map_take, List.map_drop]
theorem insE_perm (T : List En) (p : Nat) (e : En) : (insE T p e).Perm (e :: T) := put_perm T p e
theorem Laid.put {t : SetTable} {T : List En} (Z : Laid P w t T) {x : Addr} {k : NestedKey} {K : Nat} (free : way t.mask (nhash P w k) K ∉ T.map (·.1)) (taken : ∀ q, q < K → way t.mask (nhash P w k) q ∈ T.map (·.1)) :
    Laid P w (t.put (way t.mask (nhash P w k) K)).1 (insE T (SetTable.below t.place (way t.mask (nhash P w k) K)) (way t.mask (nhash P w k) K, x, k)) := by
  have lj := way_in t.mask (nhash P w k) K
  generalize hj : way t.mask (nhash P w k) K = j at free lj ⊢
  have ep : (t.put j).1.place.toList = (insE T (SetTable.below t.place j) (j, x, k)).map (·.1) := by
    rw [put_place, insE_map, Z.pl]
  have mem : ∀ e : En, e ∈ insE T (SetTable.below t.place j) (j, x, k) ↔ e = (j, x, k) ∨ e ∈ T := fun e => mem_ins
  have up : ∀ y, y ∈ T.map (·.1) → y ∈ (insE T (SetTable.below t.place j) (j, x, k)).map (·.1) := fun y hy => by
    obtain ⟨e, he, rfl⟩ := List.mem_map.mp hy
    exact List.mem_map.mpr ⟨e, (mem e).mpr (.inr he), rfl⟩
  refine ⟨ep, ?_, put_dm Z.dm j, Z.mask, fun e he => ?_, fun e he => ?_⟩
  · rw [← ep]
    refine ris_insert Z.ris' fun z => free ?_
    rw [← Z.pl]
    exact List.mem_of_getElem? (by rw [Array.getElem?_toList]; exact z)
  · rcases (mem e).mp he with rfl | h
    · exact lj
    · exact Z.le e h
  · show ∃ q, way t.mask (nhash P w e.2.2) q = e.1 ∧ _
    rcases (mem e).mp he with rfl | h
    · exact ⟨K, hj, fun q hq => up _ (taken q hq)⟩
    · obtain ⟨q, e1, e2⟩ := Z.ways e h
      exact ⟨q, e1, fun r hr => up _ (e2 r hr)⟩
/-- all laid anew -/
theorem relaid_big {t : SetTable} {T : List En} {es : Array (Int × Value)} (he : es.toList = esOf P w T) {wanted M : Nat} (hw : SetTable.sizeAbove wanted - 1 = M) (hM : Mk2 M) (hn : T.length ≤ M) :
    ∃ t' order T', t.relaid (es.map (·.1)) wanted = some (t', order) ∧ (order.filterMap (es[·]?)).toList = esOf P w T' ∧ (T'.map (·.2)).Perm (T.map (·.2)) ∧ Laid P w t' T' ∧ t'.mask = M ∧ t'.led = t.led ∧ t'.plain = t.plain := by
  have sz : es.size = T.length := by
    have z := congrArg List.length he
    unfold esOf at z
    rw [List.length_map] at z
    exact z
  obtain ⟨owner, pos, e, Z⟩ := clean_ok hM (es.map (·.1)) (by rw [Array.size_map, sz]; exact hn)
  rw [Array.size_map, sz] at Z
  have lp := live_perm Z
  have mem : ∀ q : Nat × Nat, q ∈ liveOf M owner ↔ q.2 < T.length ∧ pos q.2 = q.1 := fun q => by
    rw [lp.mem_iff, List.mem_map]
    exact ⟨fun ⟨i, hi, ei⟩ => by rw [← ei]; exact ⟨List.mem_range.mp hi, rfl⟩, fun ⟨a, b⟩ => ⟨q.2, List.mem_range.mpr a, by rw [b]⟩⟩
  have hash : ∀ i, i < T.length → (es.map (·.1)).toList.getD i 0 = nhash P w (T.getD i (0, 0, .none)).2.2 := fun i hi => by
    rw [Array.toList_map, he]
    unfold esOf
    rw [List.map_map, List.getD_eq_getElem?_getD, List.getD_eq_getElem?_getD, List.getElem?_map, List.getElem?_eq_getElem hi]
    rfl
  refine ⟨tabOf t M owner, ((liveOf M owner).map (·.2)).toArray, (liveOf M owner).map fun q => (q.1, (T.getD q.2 (0, 0, .none)).2), ?_, ?_, ?_, ⟨?_, ?_, rfl, hM, fun y hy => ?_, fun y hy => ?_⟩, rfl, rfl, rfl⟩
  · rw [relaid_eq, hw, e]
    rfl
  · rw [Array.toList_filterMap]
    show ((liveOf M owner).map (·.2)).filterMap _ = _
    unfold esOf
    rw [List.map_map, List.filterMap_map]
    refine fm_map _ _ fun q hq => ?_
    have hi := ((mem q).mp hq).1
    show es[q.2]? = _
    rw [← Array.getElem?_toList, he]
    unfold esOf
    have ed : T.getD q.2 (0, 0, .none) = T[q.2] := by rw [List.getD_eq_getElem?_getD, List.getElem?_eq_getElem hi]; rfl
    rw [List.getElem?_map, List.getElem?_eq_getElem hi, ← ed]
    rfl
  · rw [List.map_map]
    refine (lp.map _).trans ?_
    rw [List.map_map]
    have z := congrArg (List.map fun e : En => e.2) (range_own (0, 0, .none) T)
    rw [List.map_map] at z
    rw [← z]
    exact .refl _
  · show (liveOf M owner).map (·.1) = _
    rw [List.map_map]
    rfl
  · rw [List.map_map]
    have up : (List.range (M + 1)).Pairwise (· < ·) := List.pairwise_lt_range
    exact (ris_live (fun j => owner.getD j none) (List.range (M + 1)) up).1
  · obtain ⟨q, hq, rfl⟩ := List.mem_map.mp hy
    obtain ⟨a, b⟩ := (mem q).mp hq
    rw [← b]
    exact (Z.own q.2 a).1
  · obtain ⟨q, hq, rfl⟩ := List.mem_map.mp hy
    obtain ⟨a, b⟩ := (mem q).mp hq
    obtain ⟨_, _, K, k1, k2⟩ := Z.own q.2 a
    rw [hash q.2 a] at k1 k2
    refine ⟨K, k1.trans b, fun r hr => ?_⟩
    obtain ⟨i', hi', e'⟩ := k2 r hr
    exact List.mem_map.mpr ⟨_, List.mem_map.mpr ⟨(pos i', i'), (mem _).mpr ⟨hi', rfl⟩, rfl⟩, e'⟩
end
structure SetB (P : Program) (w : World) (h : Heap) (a : Addr) (T : List En) (es : Array (Int × Value)) (ep : Nat) (t : SetTable) : Prop where
  ob : ∃ o, h.get? a = some o ∧ o.ExactSet ∧ o.data = .set es ep t
  ents : es.toList = esOf P w T
  tab : Laid P w t T
  keys : (T.map fun e => e.2.2).Nodup
  tups : ∀ e ∈ T, IsN P w h e.2.2 e.2.1
  pure_ : t.plain = true
  led : w.params.followText "set-order" = true ∨ t.led = true
  loose : T.length * 5 < t.mask * 3
  most : T.length < 1000
section
variable {P : Program} {w : World} {A : Around} {E : Value → Shared → Prop} {s : Shared} {a : Addr} {T : List En} {es : Array (Int × Value)} {ep : Nat} {t : SetTable}
theorem ents_size (h : es.toList = esOf P w T) : es.size = T.length := by
  have z := congrArg List.length h
  unfold esOf at z
  rw [List.length_map] at z
  exact z
theorem ents_at (h : es.toList = esOf P w T) {i : Nat} {e : En} (hi : T[i]? = some e) : es[i]? = some (nhash P w e.2.2, Value.ref e.2.1) := by
  have z : es.toList[i]? = some (nhash P w e.2.2, Value.ref e.2.1) := by
    rw [h]
    unfold esOf
    rw [List.getElem?_map, hi]
    rfl
  rw [← Array.getElem?_toList]
  exact z
theorem Laid.fits (Z : Laid P w t T) (h : es.toList = esOf P w T) (l : T.length ≤ t.mask) : t.fits es.size = true := by
  unfold SetTable.fits
  rw [Z.fill, Z.size, ents_size h, Bool.and_eq_true, beq_iff_eq, decide_eq_true_eq]
  exact ⟨rfl, l⟩
theorem SetB.fit (R : SetB P w s.heap a T es ep t) : t.fits es.size = true := R.tab.fits R.ents (by have := R.loose; omega)
theorem Laid.gives (Z : Laid P w t T) : ¬ t.gaveWay = true := by
  unfold SetTable.gaveWay
  rw [Z.mask.odd]
  decide
theorem Laid.slot_of (Z : Laid P w t T) {i : Nat} {e : En} (h : T[i]? = some e) : t.place.toList[i]? = some e.1 := by
  rw [Z.pl, List.getElem?_map, h]
  rfl
theorem Laid.at_slot (Z : Laid P w t T) {i j : Nat} (h : t.place.toList[i]? = some j) : ∃ e, T[i]? = some e ∧ e.1 = j := by
  rw [Z.pl, List.getElem?_map] at h
  exact Option.map_eq_some_iff.mp h
theorem seekB_from (add : Bool) (R : SetB P w s.heap a T es ep t) {x : Addr} {k : NestedKey} (hx : IsN P w s.heap k x) (hu : A.units + 8 < cLine) {K : Nat} (small : K < 10 * SetTable.turns t.mask)
    (free : way t.mask (nhash P w k) K ∉ T.map (·.1)) (full : ∀ c, c < K → way t.mask (nhash P w k) c ∈ T.map (·.1)) {Q : SetFound → Shared → Prop}
    (yes : ∀ r : Option Nat, (add = true → r = none) → (add = false → r.isSome = true) → k ∈ T.map (fun e => e.2.2) → Q (.there r) s) (no : k ∉ T.map (fun e => e.2.2) → Q (.free (way t.mask (nhash P w k) K) false) s) :
    ∀ (f c : Nat) (stand : Option SetTable.Probe), stand.getD (t.probeStart (nhash P w k)) = walkP P w t k c → c ≤ K → K - c < f →
      (∀ e ∈ T, e.2.2 = k → ∃ d, c ≤ d ∧ d < K ∧ way t.mask (nhash P w k) d = e.1) →
      wpAny (model P w) A (setSearchFrom a (.ref x) (nhash P w k) add f stand) Q E s := by
  intro f
  induction f with
  | zero => intro c stand _ _ hf; exact absurd hf (Nat.not_lt_zero _)
  | succ f ih =>
    intro c stand hst hc hf ahead
    obtain ⟨o, ho, hex, hd⟩ := R.ob
    have hash : ∀ {i : Nat} {e : En}, T[i]? = some e → (es[i]?.map (·.1)).getD 0 = nhash P w e.2.2 := fun h => by rw [ents_at R.ents h] <;> rfl
    rw [setSearchFrom_succ]
    refine wpAny_bind (wpAny_setState_of ho hd R.fit ?_)
    dsimp only
    refine wp_if_neg R.tab.gives ?_
    try refine wpAny_bind (wpAny_pure ?_)
    rw [hst]
    have inP : ∀ y, y ∈ t.place.toList ↔ y ∈ T.map (·.1) := fun y => by rw [R.tab.pl]
    have met := go_spec t R.tab.ris' R.tab.dm (fun i => (es[i]?.map (·.1)).getD 0) (nhash P w k) (10 * SetTable.turns t.mask) (K - c) (walkP P w t k c) (nth_clean _ c _ rfl) (by omega)
      (fun q hq => by rw [walkP_on]; exact (inP _).mpr (full (c + q) (by omega))) (by rw [walkP_on, show c + (K - c) = K by omega]; exact fun z => free ((inP _).mp z))
    simp only [walkP_on, walkP_j] at met
    rcases met with ⟨q, i, hq, hi, hh, before, hpr⟩ | ⟨before, hpr⟩
    · rw [show t.probe (fun i => (es[i]?.map (·.1)).getD 0) (nhash P w k) (walkP P w t k c) = _ from hpr]
      dsimp only
      have live : t.slot (way t.mask (nhash P w k) (c + q)) = .live i := slot_live R.tab.ris' hi
      obtain ⟨e, he, ee⟩ := R.tab.at_slot hi
      have me : e ∈ T := List.mem_of_getElem? he
      have rest : wpAny (model P w) A (searchRest a (.ref x) (nhash P w k) add f es t (way t.mask (nhash P w k) (c + q)) i (walkP P w t k (c + (q + 1)))) Q E s := by
        unfold searchRest
        rw [ents_at R.ents he]
        dsimp only
        refine wpAny_bind (wpAny_holding (eqBool_N hu (R.tups e me) hx ?_))
        refine wpAny_bind (wpAny_setState_of ho hd R.fit ?_)
        dsimp only
        by_cases both : add = true ∧ e.2.2 = k
        · exact wp_if_pos (by simp [both.1, both.2]) (wpAny_pure (yes none (fun _ => rfl) (fun z => by rw [both.1] at z; cases z) (List.mem_map.mpr ⟨e, me, both.2⟩)))
        refine wp_if_neg (by simpa using fun z => by simpa using fun z2 => both ⟨z, z2⟩) ?_
        try refine wpAny_bind (wpAny_pure ?_)
        rw [sameMem]
        dsimp only
        simp only [if_true, live, ents_at R.ents he]
        refine wpAny_bind (wpAny_isSame_ref_self (wpAny_bind (wpAny_pure ?_)))
        simp only [if_true]
        by_cases same : e.2.2 = k
        · refine wp_if_pos (by simp [same]) (wpAny_pure (yes (some i) (fun z => absurd ⟨z, same⟩ both) (fun _ => rfl) (List.mem_map.mpr ⟨e, me, same⟩)))
        · refine wp_if_neg (by simp [same]) (ih (c + (q + 1)) _ rfl (by omega) (by omega) fun e0 m0 h0 => ?_)
          obtain ⟨d, a1, a2, a3⟩ := ahead e0 m0 h0
          obtain ⟨i0, g0⟩ := List.mem_iff_getElem?.mp m0
          have p0 := R.tab.slot_of g0
          rw [← a3] at p0
          refine ⟨d, ?_, a2, a3⟩
          by_cases z : d < c + q
          · refine (before (d - c) i0 (by omega) (by rw [show c + (d - c) = d by omega]; exact p0) ?_).elim
            exact (hash g0).trans (congrArg (nhash P w) h0)
          · by_cases y : d = c + q
            · subst y
              have l0 := slot_live R.tab.ris' p0
              rw [live] at l0
              injection l0 with l0
              subst l0
              rw [he] at g0
              exact (same (by rw [Option.some.inj g0]; exact h0)).elim
            · omega
      by_cases hl : t.led = true
      · refine wp_if_neg (by simp [hl]) ?_
        try refine wpAny_bind (wpAny_pure ?_)
        exact rest
      · refine wp_if_pos (by simp [hl]) (wpAny_bind (seen_N hx (fun y hy => ?_) ?_))
        · obtain ⟨u, hu', eu⟩ := List.mem_map.mp hy
          have m2 : u ∈ es.toList := by
            have z : u ∈ es ∧ u.1 = nhash P w k := by simpa using hu'
            simpa using z.1
          rw [R.ents] at m2
          obtain ⟨e2, me2, ee2⟩ := List.mem_map.mp m2
          exact ⟨e2.2.2, e2.2.1, by rw [← eu, ← ee2], R.tups e2 me2⟩
        · refine wp_if_neg (by decide) ?_
          try refine wpAny_bind (wpAny_pure ?_)
          exact rest
    · rw [show t.probe (fun i => (es[i]?.map (·.1)).getD 0) (nhash P w k) (walkP P w t k c) = _ from hpr]
      dsimp only
      have ek : c + (K - c) = K := by omega
      rw [ek]
      refine wpAny_pure (no fun hm => ?_)
      obtain ⟨e0, m0, h0⟩ := List.mem_map.mp hm
      obtain ⟨i0, g0⟩ := List.mem_iff_getElem?.mp m0
      obtain ⟨d, a1, a2, a3⟩ := ahead e0 m0 h0
      have p0 := R.tab.slot_of g0
      rw [← a3] at p0
      refine before (d - c) i0 (by omega) (by rw [show c + (d - c) = d by omega]; exact p0) ?_
      exact (hash g0).trans (congrArg (nhash P w) h0)
/-- the search, from its start -/
theorem seekB (add : Bool) (R : SetB P w s.heap a T es ep t) {x : Addr} {k : NestedKey} (hx : IsN P w s.heap k x) (hu : A.units + 8 < cLine) {Q : SetFound → Shared → Prop}
    (yes : ∀ r : Option Nat, (add = true → r = none) → (add = false → r.isSome = true) → k ∈ T.map (fun e => e.2.2) → Q (.there r) s)
    (no : ∀ K, way t.mask (nhash P w k) K ∉ T.map (·.1) → (∀ c, c < K → way t.mask (nhash P w k) c ∈ T.map (·.1)) → k ∉ T.map (fun e => e.2.2) → Q (.free (way t.mask (nhash P w k) K) false) s) : wpAny (model P w) A (setSearch a (.ref x) (nhash P w k) add) Q E s := by
  have room := R.loose
  obtain ⟨K, small, free, full⟩ := R.tab.mask.first (nhash P w k) (l := T.map (·.1)) (by rw [List.length_map]; omega)
  have big : 10 * SetTable.turns t.mask ≤ 20620 := by
    unfold SetTable.turns
    have := R.tab.mask.most
    omega
  unfold setSearch
  refine seekB_from add R hx hu small free full yes (no K free full) 100000 0 none rfl (Nat.zero_le _) (by omega) fun e me he => ?_
  obtain ⟨d, e1, e2⟩ := R.tab.ways e me
  rw [he] at e1 e2
  refine ⟨d, Nat.zero_le _, ?_, e1⟩
  by_cases c : d < K
  · exact c
  · by_cases c2 : d = K
    · subst c2
      exact absurd (List.mem_map.mpr ⟨e, me, e1.symm⟩) free
    · exact absurd (e2 K (by omega)) free
/-- laid anew, larger -/
theorem relay_big {o : Obj} (ho : s.heap.get? a = some o) (hex : o.ExactSet) (hd : o.data = .set es ep t) (he : es.toList = esOf P w T) (Z : Laid P w t T) (hfl : T.length ≤ t.mask) (keys : (T.map fun e => e.2.2).Nodup) (tups : ∀ e ∈ T, IsN P w s.heap e.2.2 e.2.1) (pl : t.plain = true)
    (ld : w.params.followText "set-order" = true ∨ t.led = true) (few : T.length < 1000) {wanted M : Nat} (hw : SetTable.sizeAbove wanted - 1 = M) (hM : Mk2 M) (hn : T.length * 5 < M * 3) {Q : Unit → Shared → Prop}
    (go : ∀ h' T' es' ep' t', Heap.SameBut a s.heap h' → SetB P w h' a T' es' ep' t' → (T'.map (·.2)).Perm (T.map (·.2)) → Q () { s with heap := h' }) : wpAny (model P w) A (setRelay a wanted) Q E s := by
  have most := hM.most
  obtain ⟨t', order, T', e1, e2, e3, Z', em, el, epl⟩ := relaid_big (t := t) he hw hM (by omega)
  have len : T'.length = T.length := by
    have z := e3.length_eq
    rw [List.length_map, List.length_map] at z
    exact z
  have s2 : (order.filterMap (es[·]?)).size = es.size := by rw [ents_size e2, ents_size he, len]
  rw [setRelay_eq]
  refine wpAny_bind (wpAny_setState_of ho hd (Z.fits he hfl) ?_)
  dsimp only
  refine wp_if_neg (by rw [sizeLine_eq]; omega) ?_
  try refine wpAny_bind (wpAny_pure ?_)
  rw [e1]
  dsimp only
  refine wpAny_bind (wp_if_neg (by rw [s2]; simp) ?_)
  try refine wpAny_bind (wpAny_pure ?_)
  refine wpAny_pure ?_
  dsimp only
  refine wpAny_storeSet_of ho hd ?_ (by rw [s2, ents_size he, sizeLine_eq]; omega)
  have sb : Heap.SameBut a s.heap (s.heap.update a (Obj.putSet (order.filterMap (es[·]?)) t')) := Heap.SameBut.update ..
  refine go _ T' _ (ep + 1) t' sb ⟨⟨_, store_at ho hd, ⟨hex.1, hex.2.1, hex.2.2⟩, rfl⟩, e2, Z', ?_, fun e me => ?_, epl.trans pl, by rw [el]; exact ld, by rw [len, em]; exact hn, by rw [len]; exact few⟩ e3
  · have z := (e3.map (fun p : Addr × NestedKey => p.2)).nodup_iff
    rw [List.map_map, List.map_map] at z
    exact z.mpr keys
  · have m2 : e.2 ∈ T.map (·.2) := e3.mem_iff.mp (List.mem_map.mpr ⟨e, me, rfl⟩)
    obtain ⟨e0, m0, h0⟩ := List.mem_map.mp m2
    have y := tups e0 m0
    rw [h0] at y
    exact isN_same y ho hd sb
end
section
variable {P : Program} {w : World} {A : Around} {E : Value → Shared → Prop} {s : Shared} {a : Addr} {T : List En} {es : Array (Int × Value)} {ep : Nat} {t : SetTable}
theorem add_big (R : SetB P w s.heap a T es ep t) {x : Addr} {k : NestedKey} (hx : IsN P w s.heap k x) (hu : A.units + 8 < cLine) (few : T.length + 1 < 1000) {Q : Bool → Shared → Prop}
    (go : ∀ b h' T' es' ep' t', Heap.SameBut a s.heap h' → SetB P w h' a T' es' ep' t' → (k ∈ T.map (fun e => e.2.2) → T' = T) → (k ∉ T.map (fun e => e.2.2) → (T'.map (·.2)).Perm ((x, k) :: T.map (·.2))) → Q b { s with heap := h' }) :
    wpAny (model P w) A (setAddHashed a (.ref x) (nhash P w k)) Q E s := by
  obtain ⟨o, ho, hex, hd⟩ := id R.ob
  have loose := R.loose
  unfold setAddHashed
  refine wpAny_holding ?_
  rw [show (100000 : Nat) = 99999 + 1 from rfl, setAddHashedIn_succ]
  refine wpAny_bind (wpAny_setState_of ho hd R.fit ?_)
  dsimp only
  refine wp_if_neg (by simp [byScan, Value.scannable]) ?_
  try refine wpAny_bind (wpAny_pure ?_)
  refine wpAny_bind (seekB true R hx hu (fun r h1 _ hm => ?_) fun K free taken hm => ?_)
  · dsimp only
    exact wpAny_pure (go false s.heap T es ep t (Heap.SameBut.refl a s.heap) R (fun _ => rfl) fun z => absurd hm z)
  dsimp only
  refine wpAny_bind (wpAny_setState_of ho hd R.fit ?_)
  dsimp only
  have Z1 := R.tab.put (x := x) free taken
  have em : (t.put (way t.mask (nhash P w k) K)).1.mask = t.mask := rfl
  have el : (t.put (way t.mask (nhash P w k) K)).1.led = t.led := rfl
  have epl : (t.put (way t.mask (nhash P w k) K)).1.plain = t.plain := rfl
  have e2 : (t.put (way t.mask (nhash P w k) K)).2 = SetTable.below t.place (way t.mask (nhash P w k) K) := rfl
  generalize hpt : t.put (way t.mask (nhash P w k) K) = pt at Z1 em el epl e2 ⊢
  generalize hj : way t.mask (nhash P w k) K = j at Z1 e2
  obtain ⟨t1, p⟩ := pt
  dsimp only at Z1 em el epl e2 ⊢
  subst e2
  generalize SetTable.below t.place j = p at Z1 ⊢
  have pm := insE_perm T p (j, x, k)
  have he1 : (SetTable.insertAt es p (nhash P w k, Value.ref x)).toList = esOf P w (insE T p (j, x, k)) := by
    rw [SetTable.toList_insertAt, R.ents]
    unfold esOf
    rw [insE_map]
  have len : (insE T p (j, x, k)).length = T.length + 1 := pm.length_eq
  have pk : ((insE T p (j, x, k)).map (·.2)).Perm ((x, k) :: T.map (·.2)) := pm.map (·.2)
  have keys1 : ((insE T p (j, x, k)).map fun e => e.2.2).Nodup := (pm.map (fun e : En => e.2.2)).nodup_iff.mpr (List.nodup_cons.mpr ⟨hm, R.keys⟩)
  generalize insE T p (j, x, k) = T1 at Z1 pm he1 len pk keys1
  have sz := ents_size he1
  generalize SetTable.insertAt es p (nhash P w k, Value.ref x) = es1 at he1 sz ⊢
  have pl1 : t1.plain = true := epl.trans R.pure_
  first
    | (refine wpAny_bind ?_; refine wp_if_pos pl1 ?_; refine hashBy_N hx ?_)
    | refine wp_if_pos pl1 (wpAny_bind (hashBy_N hx ?_))
  simp only [if_true]
  refine wpAny_bind (wpAny_storeSet_of ho hd ?_ (by rw [sz, len, sizeLine_eq]; omega))
  have sb : Heap.SameBut a s.heap (s.heap.update a (Obj.putSet es1 t1)) := Heap.SameBut.update ..
  have ho1 := store_at (es' := es1) (t' := t1) ho hd
  generalize s.heap.update a (Obj.putSet es1 t1) = h1 at sb ho1 ⊢
  have tups1 : ∀ e ∈ T1, IsN P w h1 e.2.2 e.2.1 := fun e me => by
    rcases List.mem_cons.mp (pm.mem_iff.mp me) with z | z
    · rw [z]; exact isN_same hx ho hd sb
    · exact isN_same (R.tups e z) ho hd sb
  have ld1 : w.params.followText "set-order" = true ∨ t1.led = true := by rw [el]; exact R.led
  have hfill : t1.fill = T.length + 1 := Z1.fill.trans len
  by_cases full : t1.tooFull = true
  · have hf : (T.length + 1) * 5 ≥ t.mask * 3 := by
      unfold SetTable.tooFull at full
      rw [decide_eq_true_eq, hfill, em] at full
      exact full
    have grow : ∀ M, SetTable.sizeAbove (SetTable.grown (es.size + 1)) - 1 = M → Mk2 M → (T.length + 1) * 5 < M * 3 → T.length + 1 ≤ t.mask → wpAny (model P w) A (setRelay a (SetTable.grown (es.size + 1))) (fun _ s' => wpAny (model P w) A (pure true) Q E s') E { s with heap := h1 } := fun M g1 g2 g3 g4 =>
      relay_big (s := { s with heap := h1 }) ho1 ⟨hex.1, hex.2.1, hex.2.2⟩ rfl he1 Z1 (by rw [len, em]; exact g4) keys1 tups1 pl1 ld1 (by rw [len]; exact few) g1 g2 (by rw [len]; exact g3) fun h2 T2 es2 ep2 t2 sb2 R2 pm2 =>
        wpAny_pure (go true h2 T2 es2 ep2 t2 (sb.trans sb2) R2 (fun z => absurd z hm) fun _ => pm2.trans pk)
    have esz := ents_size R.ents
    have run : wpAny (model P w) A (setRelay a (SetTable.grown (es.size + 1))) (fun _ s' => wpAny (model P w) A (pure true) Q E s') E { s with heap := h1 } := by
      rcases R.tab.mask.is with e | e | e | e | e
      · have l : T.length = 4 := by omega
        exact grow 31 (by rw [esz, l, size_20]) mk31 (by omega) (by omega)
      · have l : T.length = 18 := by omega
        exact grow 127 (by rw [esz, l, size_76]) mk127 (by omega) (by omega)
      · have l : T.length = 76 := by omega
        exact grow 511 (by rw [esz, l, size_308]) mk511 (by omega) (by omega)
      · have l : T.length = 306 := by omega
        exact grow 2047 (by rw [esz, l, size_1228]) mk2047 (by omega) (by omega)
      · omega
    first
      | (refine wpAny_bind ?_; refine wp_if_pos (by simp [full]) ?_; exact run)
      | (refine wp_if_pos (by simp [full]) ?_; exact wpAny_bind run)
  · first
      | refine wp_if_neg (by simp [full]) ?_
      | (refine wpAny_bind ?_; refine wp_if_neg (by simp [full]) ?_; refine wpAny_pure ?_)
    refine wpAny_pure (go true h1 T1 es1 (ep + 1) t1 sb ⟨⟨_, ho1, ⟨hex.1, hex.2.1, hex.2.2⟩, rfl⟩, he1, Z1, keys1, tups1, pl1, ld1, ?_, by rw [len]; exact few⟩ (fun z => absurd z hm) fun _ => pk)
    unfold SetTable.tooFull at full
    rw [decide_eq_true_eq, hfill] at full
    rw [len]
    omega
theorem SetB.moved {h h' : Heap} (R : SetB P w h a T es ep t) (ha : ∀ o, h.get? a = some o → h'.get? a = some o) (ht : ∀ e ∈ T, IsN P w h' e.2.2 e.2.1) : SetB P w h' a T es ep t := by
  obtain ⟨o, ho, r⟩ := R.ob
  exact ⟨⟨o, ha o ho, r⟩, R.ents, R.tab, R.keys, ht, R.pure_, R.led, R.loose, R.most⟩
theorem setB0 {h : Heap} {a : Addr} (ho : h.get? a = some { cls := .type "set", dict := none, data := .set #[] 0 (.fresh 0 0 (!w.params.followText "set-order")) }) : SetB P w h a [] #[] 0 (.fresh 0 0 (!w.params.followText "set-order")) where
  ob := ⟨_, ho, ⟨rfl, rfl, rfl⟩, rfl⟩
  ents := rfl
  tab := ⟨rfl, List.Pairwise.nil, rfl, mk7, (fun e z => nomatch z), (fun e z => nomatch z)⟩
  keys := List.nodup_nil
  tups := fun e z => nomatch z
  pure_ := rfl
  led := by cases e : w.params.followText "set-order" <;> simp [SetTable.fresh]
  loose := by show 0 * 5 < 7 * 3; decide
  most := by decide
end
/-- what a set has of the first i tuples -/
structure HasOf (ks : List (Addr × NestedKey)) (i : Nat) (T : List En) : Prop where
  sub : ∀ e ∈ T, e.2 ∈ ks.take i
  all : ∀ p ∈ ks.take i, p.2 ∈ T.map (fun e => e.2.2)
  len : T.length ≤ i
theorem hasOf0 (ks : List (Addr × NestedKey)) : HasOf ks 0 [] := ⟨(fun e z => nomatch z), (fun p z => by simp at z), Nat.le_refl 0⟩
theorem HasOf.next {ks : List (Addr × NestedKey)} {i : Nat} {T T' : List En} {p : Addr × NestedKey} (g : HasOf ks i T) (hp : ks[i]? = some p) (c1 : p.2 ∈ T.map (fun e => e.2.2) → T' = T) (c2 : p.2 ∉ T.map (fun e => e.2.2) → (T'.map (·.2)).Perm (p :: T.map (·.2))) : HasOf ks (i + 1) T' := by
  have tk : ks.take (i + 1) = ks.take i ++ [p] := by rw [List.take_add_one, hp]; rfl
  by_cases c : p.2 ∈ T.map (fun e => e.2.2)
  · rw [c1 c]
    refine ⟨fun e me => by rw [tk]; exact List.mem_append_left _ (g.sub e me), fun q mq => ?_, Nat.le_succ_of_le g.len⟩
    rw [tk] at mq
    rcases List.mem_append.mp mq with z | z
    · exact g.all q z
    · rw [List.mem_singleton.mp z]; exact c
  · have pm := c2 c
    refine ⟨fun e me => ?_, fun q mq => ?_, ?_⟩
    · rw [tk]
      rcases List.mem_cons.mp (pm.mem_iff.mp (List.mem_map.mpr ⟨e, me, rfl⟩)) with z | z
      · rw [z]; exact List.mem_append_right _ (List.mem_singleton.mpr rfl)
      · obtain ⟨e0, m0, h0⟩ := List.mem_map.mp z
        rw [← h0]
        exact List.mem_append_left _ (g.sub e0 m0)
    · have pk := (pm.map (fun y : Addr × NestedKey => y.2))
      rw [List.map_cons, List.map_map, List.map_map] at pk
      rw [tk] at mq
      refine pk.mem_iff.mpr ?_
      rcases List.mem_append.mp mq with z | z
      · exact List.mem_cons_of_mem _ (g.all q z)
      · rw [List.mem_singleton.mp z]; exact List.mem_cons_self
    · have z := pm.length_eq
      rw [List.length_cons, List.length_map, List.length_map] at z
      have := g.len
      omega
section
variable {P : Program} {w : World} {A : Around} {E : Value → Shared → Prop} {s : Shared}
theorem fill_loop {I : Addr} {fp wr : List Addr} {G : Array GenState → Array GenState → Prop} {n : Nat} {Pv : Nat → Value → Prop} {St : Nat → Shared → Prop} {R : Result → Shared → Prop}
    (W : WalksS P w A.in1 I fp wr G n Pv St) {S : Addr} (off : S ∉ fp) (ks : List (Addr × NestedKey)) (size : n = ks.length) (few : ks.length < 1000) (val : ∀ i v, Pv i v → ∃ p, ks[i]? = some p ∧ v = .ref p.1)
    {h0 : Heap} (kt : ∀ p ∈ ks, IsN P w h0 p.2 p.1) (S0 : h0.get? S = none) (w0 : ∀ b ∈ wr, h0.get? b = none) (hu : A.in1.units + 8 < cLine)
    (fin : ∀ s' T es ep t, s'.gens = s.gens → s'.drawn = s.drawn → s'.os = s.os → SetB P w s'.heap S T es ep t → HasOf ks n T → (∀ b o, h0.get? b = some o → s'.heap.get? b = some o) → R (.ok (.ret .none)) s') (hG : ∀ x y, G x y → y = x) :
    ∀ (k i : Nat) (st : Shared), n - i = k → i ≤ n → St i st → st.gens = s.gens → st.drawn = s.drawn → st.os = s.os → (∀ b o, h0.get? b = some o → st.heap.get? b = some o) → (∃ T es ep t, SetB P w st.heap S T es ep t ∧ HasOf ks i T) →
      codeAny (model P w) A (.builtin "set.update.loop" ⟨[.ref S, .ref I], []⟩) R st := by
  have offw : S ∉ wr := fun z => off (W.sub _ z)
  intro k
  induction k with
  | zero =>
    rintro i st ek hi hst eg ed eo kp ⟨T, es, ep, t, B, g⟩
    obtain rfl : i = n := by omega
    refine codeAny_builtin F.entry_set_update_loop ?_
    rw [Around.under_plainId F.plain_set_update_loop _]
    show wpAny _ A.in1 (pyNext (.ref I) >>= _) _ _ st
    refine wpAny_bind (W.done st _ _ hst fun s2 hm => ?_)
    have kp2 : ∀ b o, h0.get? b = some o → s2.heap.get? b = some o := fun b o e => hm.heap b o (fun z => by rw [w0 b z] at e; cases e) (kp b o e)
    exact (show wpAny _ A.in1 (ret Value.none) _ _ s2 from wpAny_pure (fin s2 T es ep t ((hG _ _ hm.gens).trans eg) (hm.drawn.trans ed) (hm.os.trans eo) (B.moved (fun o e => hm.heap S o offw e) fun e me => isN_keep (kt e.2 (List.mem_of_mem_take (g.sub e me))) kp2) g kp2))
  | succ k ih =>
    rintro i st ek hi hst eg ed eo kp ⟨T, es, ep, t, B, g⟩
    have lt : i < n := by omega
    refine codeAny_builtin F.entry_set_update_loop ?_
    rw [Around.under_plainId F.plain_set_update_loop _]
    show wpAny _ A.in1 (pyNext (.ref I) >>= _) _ _ st
    refine wpAny_bind (W.item i st _ _ lt hst fun v s2 hv hst2 hm => ?_)
    obtain ⟨p, hp, rfl⟩ := val i v hv
    have kp2 : ∀ b o, h0.get? b = some o → s2.heap.get? b = some o := fun b o e => hm.heap b o (fun z => by rw [w0 b z] at e; cases e) (kp b o e)
    have B2 : SetB P w s2.heap S T es ep t := B.moved (fun o e => hm.heap S o offw e) fun e me => isN_keep (kt e.2 (List.mem_of_mem_take (g.sub e me))) kp2
    have hx : IsN P w s2.heap p.2 p.1 := isN_keep (kt p (List.mem_of_getElem? hp)) kp2
    refine (show wpAny _ A.in1 (holding [Value.ref p.1] (setAdd S (.ref p.1)) >>= _) _ _ s2 from wpAny_bind (wpAny_holding ?_))
    unfold setAdd
    refine wpAny_holding (wpAny_bind (pyHash_N hu hx ?_))
    refine add_big (s := { s2 with toks := s2.toks + (p.2.draws) }) B2 hx hu (by have := g.len; omega) fun b h3 T3 es3 ep3 t3 sb B3 c1 c2 => ?_
    have kp3 : ∀ b o, h0.get? b = some o → h3.get? b = some o := fun b o e => (sb.2 b (fun z => by rw [z, S0] at e; cases e)).trans (kp2 b o e)
    exact wpAny_pure ⟨plainId_quiet F.plain_set_update_loop _, ih (i + 1) _ (by omega) lt (W.frame _ s2 _ _ hst2 (Nat.le_add_right _ _) fun b mb o e => by rw [sb.2 b (fun z : b = S => off (z ▸ mb))]; exact e) ((hG _ _ hm.gens).trans eg) (hm.drawn.trans ed) (hm.os.trans eo) kp3 ⟨T3, es3, ep3, t3, B3, g.next hp c1 c2⟩⟩
theorem set_of_tuples {l : Addr} {its : Array Value} (ks : List (Addr × NestedKey)) {Q : Value → Shared → Prop} (quiet : A.handled = none) (isl : s.heap.IsList l its) (ia : its.toList = ks.map fun p => Value.ref p.1) (kt : ∀ p ∈ ks, IsN P w s.heap p.2 p.1) (few : ks.length < 1000) (hu : A.units + 12 < cLine)
    (go : ∀ (h2 : Heap) (tk : Nat) T es ep t, SetB P w h2 s.heap.objs.size T es ep t → HasOf ks ks.length T → (∀ b o, s.heap.get? b = some o → h2.get? b = some o) → Q (.ref s.heap.objs.size) { s with heap := h2, toks := tk }) :
    wpAny (model P w) A (call (.type "set") [.ref l]) Q E s := by
  have size : its.size = ks.length := by
    have z := congrArg List.length ia
    rwa [Array.length_toList, List.length_map] at z
  obtain ⟨c0, tl, mro⟩ := F.called_set.mro
  have f1 := F.called_set.made
  have f2 := F.called_set.sub
  have f3 := F.called_set.notType
  have f4 := F.called_set.canCreate
  have f5 := F.typeCall_set_1 (.ref l)
  refine wpAny_call (codeAny_of_tree (show wpAny _ _ (callAny (.type "set") _) _ _ _ from wpAny_pure ⟨Code.quiet_builtin _ (by decide +kernel), codeAny_builtin F.entry_type_call ?_⟩))
  rw [Around.under_plain (weight_type_call_type "set" [.ref l] []) rfl]
  repeat any_goals (first | assumption | wp_step)
  refine codeAny_mono (code_set_led1 (.ref l) (E := E) (Q₁ := fun obj s1 => obj = .ref s.heap.objs.size ∧ s1 = { s with heap := s.heap.push (bare w) }) ⟨rfl, rfl⟩) fun r s1 hr => ?_
  cases r with
  | error e => exact hr
  | ok fl =>
  cases fl with
  | ret obj =>
    obtain ⟨rfl, rfl⟩ := hr
    have at0 : (s.heap.push (bare w)).get? s.heap.objs.size = some (bare w) := Heap.get?_push_size _ rfl
    have ty0 : Shared.TypeIs { s with heap := s.heap.push (bare w) } (.ref s.heap.objs.size) "set" := ⟨_, at0, rfl⟩
    have f6 := F.called_set.init.lookup
    have f7 := F.called_set.init.bind (.ref s.heap.objs.size)
    repeat any_goals (first | assumption | wp_step)
    refine codeAny_mono (codeAny_call_builtin (R := wants (fun r s2 => r = .none ∧ ∃ h2 tk T es ep t, s2 = { s with heap := h2, toks := tk } ∧ SetB P w h2 s.heap.objs.size T es ep t ∧ HasOf ks ks.length T ∧ ∀ b o, s.heap.get? b = some o → h2.get? b = some o) E) F.called_set.init.plain F.entry_set_init (check_set_init_1 ty0 ?_)) fun r2 s2 hr2 => ?_
    · obtain ⟨⟨ocls, odict, odata, oslots⟩, hol, hcl, nl, hdl⟩ := isl
      dsimp only at hcl hdl
      subst hcl hdl
      have at1 : (s.heap.push (bare w)).get? l = some ⟨.type "list", odict, .seq its nl, oslots⟩ := Heap.get?_push_of_some _ hol
      have g1 := F.sub_list_set
      have g2 := F.sub_list_frozenset
      have g3 : (Value.type "list" == Value.type "dict") = false := by decide
      have isl1 : (s.heap.push (bare w)).IsList l its := ⟨_, at1, rfl, nl, rfl⟩
      unfold Builtin.«set.__init__» noKeywords Builtin.Frozenset.updateFrom
      generalize hPI : pyIter = PI
      wp_walk
      subst hPI
      refine wpAny_pyIter_list isl1 (wpAny_bind (wpAny_runValue ?_))
      have ls : l < s.heap.objs.size := Heap.lt_size hol
      have q3 : A.in1.in1.in1.handled = none := by simp [quiet]
      have ne1 : l ≠ (s.heap.push (bare w)).objs.size := by rw [Heap.size_push]; exact Nat.ne_of_lt (Nat.lt_succ_of_lt ls)
      have nin : s.heap.objs.size ∉ [(s.heap.push (bare w)).objs.size, l] := by
        rw [Heap.size_push]
        intro z
        simp only [List.mem_cons, List.not_mem_nil, or_false] at z
        exact z.elim (Nat.ne_of_lt (Nat.lt_succ_self _)) (Nat.ne_of_gt ls)
      have val : ∀ (i : Nat) (v : Value), its[i]? = some v → ∃ p, ks[i]? = some p ∧ v = .ref p.1 := fun i v hv => by
        have z : its.toList[i]? = some v := by rw [Array.getElem?_toList]; exact hv
        rw [ia, List.getElem?_map] at z
        obtain ⟨p, e1, e2⟩ := Option.map_eq_some_iff.mp z
        exact ⟨p, e1, e2.symm⟩
      have out : ∀ b, s.heap.objs.size ≤ b → s.heap.get? b = none := fun b hb => by
        cases e : s.heap.get? b with
        | none => rfl
        | some o => exact absurd (Heap.lt_size e) (Nat.not_lt.mpr hb)
      refine fill_loop (s := s) ((Walks.list q3 _ l ne1 its).toS) nin ks size few val kt (out _ (Nat.le_refl _)) (fun b hb => out b (by rw [List.mem_singleton.mp hb, Heap.size_push]; exact Nat.le_succ _)) (by simp only [Around.in1_units]; omega) ?_ (fun x y h => h) (its.size - 0) 0 _ (by omega) (Nat.zero_le _) ⟨⟨_, Heap.get?_push_size _ rfl, rfl, rfl⟩, isl1.push _⟩ rfl rfl rfl (fun b o e => Heap.get?_push_of_some _ (Heap.get?_push_of_some _ e)) ⟨[], #[], 0, _, setB0 (Heap.get?_push_of_some _ at0), hasOf0 ks⟩
      rintro ⟨h2, g2', d2, tk2, os2⟩ T es ep t e1 e2 e3 B g kp
      dsimp only at e1 e2 e3
      subst e1 e2 e3
      show wpAny _ _ _ _ _ _
      refine wpAny_pure ?_
      show wpAny _ _ (ret Value.none) _ _ _
      rw [size] at g
      exact wpAny_pure ⟨rfl, h2, tk2, T, es, ep, t, rfl, B, g, kp⟩
    · cases r2 with
      | error e => exact hr2
      | ok fl2 =>
      cases fl2 with
      | ret r =>
        obtain ⟨rfl, h2, tk, T, es, ep, t, rfl, B, g, kp⟩ := hr2
        repeat any_goals (first | assumption | wp_step)
        exact go _ _ _ _ _ _ B g kp
      | _ => exact hr2.elim
  | _ => exact hr.elim
end
/-- the set at a, of these tuples at their places -/
def SetB0 (P : Program) (w : World) (h : Heap) (a : Addr) (L : List (Addr × NestedKey)) : Prop := ∃ (T : List En) (es : Array (Int × Value)) (ep : Nat) (t : SetTable), L = T.map (·.2) ∧ (∃ o, h.get? a = some o ∧ o.ExactSet ∧ o.data = .set es ep t) ∧ es.toList = esOf P w T ∧ Laid P w t T ∧ (T.map fun e => e.2.2).Nodup ∧ t.plain = true ∧
  (w.params.followText "set-order" = true ∨ t.led = true) ∧ T.length * 5 < t.mask * 3 ∧ T.length < 1000
def SetBO (P : Program) (w : World) (a : Addr) (L : List (Addr × NestedKey)) : HO := .ext fun h => SetB0 P w h a L
section
variable {P : Program} {w : World}
theorem SetB.small {h : Heap} {a : Addr} {T : List En} {es : Array (Int × Value)} {ep : Nat} {t : SetTable} (R : SetB P w h a T es ep t) : SetB0 P w h a (T.map (·.2)) := ⟨T, es, ep, t, rfl, R.ob, R.ents, R.tab, R.keys, R.pure_, R.led, R.loose, R.most⟩
theorem SetB0.whole {h : Heap} {a : Addr} {L : List (Addr × NestedKey)} (R : SetB0 P w h a L) (ht : ∀ p ∈ L, IsN P w h p.2 p.1) : ∃ T es ep t, L = T.map (·.2) ∧ SetB P w h a T es ep t := by
  obtain ⟨T, es, ep, t, rfl, h1, h2, h3, h4, h5, h6, h7, h8⟩ := R
  exact ⟨T, es, ep, t, rfl, h1, h2, h3, h4, fun e me => ht e.2 (List.mem_map.mpr ⟨e, me, rfl⟩), h5, h6, h7, h8⟩
theorem setBO_new {H : Hp} {h : Heap} {a : Addr} {L : List (Addr × NestedKey)} (R : SetB0 P w h a L) : ObjOk P w H h a (SetBO P w a L) := by
  have R' := R
  obtain ⟨T, es, ep, t, e0, ⟨o, ho, r⟩, q⟩ := R'
  refine ⟨R, ⟨o, ho⟩, fun h1 h2 p k => ?_⟩
  obtain ⟨T', es', ep', t', e0', ⟨o', ho', r'⟩, q'⟩ := p
  exact ⟨T', es', ep', t', e0', ⟨o', k o' ho', r'⟩, q'⟩
end
end KN
set_option Elab.async false
set_option linter.all false
set_option maxRecDepth 100000
set_option maxHeartbeats 3200000
namespace KN
open PySem PySem.Spec PyProof.Rows L2 TS KW SrtO
/-- a row's item: a number, or a tuple of numbers -/
inductive It where
  | n (i : Int)
  | t (ks : List Int)
deriving DecidableEq
def It.key : It → NestedKey
  | .n i => .num i
  | .t ks => .tup (ks.map .num)
def It.flat : It → Bool
  | .n _ => true
  | .t _ => false
def rowK (r : List It) : NestedKey := .tup (r.map It.key)
theorem num_inj : ∀ {x y : List Int}, x.map NestedKey.num = y.map NestedKey.num → x = y
  | [], [], _ => rfl
  | [], _ :: _, h => by cases h
  | _ :: _, [], h => by cases h
  | a :: x, b :: y, h => by
    simp only [List.map_cons, List.cons.injEq, NestedKey.num.injEq] at h
    rw [h.1, num_inj h.2]
theorem It.key_inj : ∀ {a b : It}, a.key = b.key → a = b
  | .n i, .n j, h => by simp only [It.key, NestedKey.num.injEq] at h; rw [h]
  | .n _, .t _, h => by simp only [It.key] at h; cases h
  | .t _, .n _, h => by simp only [It.key] at h; cases h
  | .t x, .t y, h => by simp only [It.key, NestedKey.tup.injEq] at h; rw [num_inj h]
theorem keys_inj : ∀ {x y : List It}, x.map It.key = y.map It.key → x = y
  | [], [], _ => rfl
  | [], _ :: _, h => by cases h
  | _ :: _, [], h => by cases h
  | a :: x, b :: y, h => by
    simp only [List.map_cons, List.cons.injEq] at h
    rw [It.key_inj h.1, keys_inj h.2]
theorem rowK_inj {x y : List It} (h : rowK x = rowK y) : x = y := by
  unfold rowK at h
  injection h with h
  exact keys_inj h
theorem nums_of : ∀ (ks : List Int), numKs (ks.map NestedKey.num) = true
  | [] => rfl
  | k :: ks => by simp only [List.map_cons, numKs, numK, nums_of ks, Bool.and_self]
theorem deep_of : ∀ (ks : List Int), NestedKey.depthAll (ks.map NestedKey.num) = 0
  | [] => rfl
  | k :: ks => by simp only [List.map_cons, NestedKey.depthAll, NestedKey.depth, deep_of ks, Nat.max_self]
theorem key_nums : ∀ r : List It, numKs (r.map It.key) = true
  | [] => rfl
  | .n i :: r => by simp only [List.map_cons, It.key, numKs, numK, key_nums r, Bool.and_self]
  | .t ks :: r => by simp only [List.map_cons, It.key, numKs, numK, nums_of, key_nums r, Bool.and_self]
theorem key_deep : ∀ r : List It, NestedKey.depthAll (r.map It.key) ≤ 1
  | [] => Nat.zero_le _
  | .n i :: r => by have := key_deep r; simp only [List.map_cons, It.key, NestedKey.depthAll, NestedKey.depth]; omega
  | .t ks :: r => by have := key_deep r; simp only [List.map_cons, It.key, NestedKey.depthAll, NestedKey.depth, deep_of]; omega
theorem rowK_deep (r : List It) : (rowK r).depth ≤ 2 := by
  have := key_deep r
  simp only [rowK, NestedKey.depth]
  omega
theorem rowK_nums (r : List It) : numK (rowK r) = true := by
  simp only [rowK, numK, key_nums]
theorem lexL_con : ∀ x y, lexL x y = false → lexL y x = false → x = y
  | [], [], _, _ => rfl
  | [], _ :: _, h, _ => by cases h
  | _ :: _, [], _, h => by cases h
  | a :: x, b :: y, h, k => by
    unfold lexL at h k
    by_cases e : a = b
    · subst e
      rw [if_pos rfl] at h k
      rw [lexL_con x y h k]
    · rw [if_neg e, decide_eq_false_iff_not] at h
      rw [if_neg (fun z => e z.symm), decide_eq_false_iff_not] at k
      omega
def ltI : It → It → Bool
  | .n a, .n b => decide (a < b)
  | .t a, .t b => lexL a b
  | .n _, .t _ => true
  | .t _, .n _ => false
theorem ltI_irr : ∀ x y, ltI x y = true → ltI y x = false
  | .n a, .n b, h => by simp only [ltI, decide_eq_true_eq] at h; simp only [ltI, decide_eq_false_iff_not]; omega
  | .t a, .t b, h => lexL_irr a b h
  | .n _, .t _, _ => rfl
  | .t _, .n _, h => by cases h
theorem ltI_con : ∀ x y, ltI x y = false → ltI y x = false → x = y
  | .n a, .n b, h, k => by
    simp only [ltI, decide_eq_false_iff_not] at h k
    rw [show a = b by omega]
  | .t a, .t b, h, k => by rw [lexL_con a b h k]
  | .n _, .t _, h, _ => by cases h
  | .t _, .n _, _, h => by cases h
theorem ltI_tr : ∀ x y z, ltI x y = false → ltI y z = false → ltI x z = false
  | .n a, .n b, .n c, h, k => by
    simp only [ltI, decide_eq_false_iff_not] at h k ⊢
    omega
  | .t a, .t b, .t c, h, k => lexL_tr a b c h k
  | .t _, _, .n _, _, _ => rfl
  | .n _, .t _, _, h, _ => by cases h
  | .n _, .n _, .t _, _, k => by cases k
  | .t _, .n _, .t _, _, k => by cases k
def lexI : List It → List It → Bool
  | [], [] => false
  | [], _ :: _ => true
  | _ :: _, [] => false
  | a :: x, b :: y => if a = b then lexI x y else ltI a b
theorem lexI_irr : ∀ x y, lexI x y = true → lexI y x = false
  | [], [], h => by cases h
  | [], _ :: _, _ => rfl
  | _ :: _, [], h => by cases h
  | a :: x, b :: y, h => by
    unfold lexI at h ⊢
    by_cases e : a = b
    · rw [if_pos e] at h
      rw [if_pos e.symm]
      exact lexI_irr x y h
    · rw [if_neg e] at h
      rw [if_neg (fun z => e z.symm)]
      exact ltI_irr _ _ h
theorem lexI_tr : ∀ x y z, lexI x y = false → lexI y z = false → lexI x z = false
  | [], [], _, _, h => h
  | [], _ :: _, _, h, _ => by cases h
  | _ :: _, _, [], _, _ => rfl
  | _ :: _, [], _ :: _, _, h => by cases h
  | a :: x, b :: y, c :: z, h, k => by
    unfold lexI at h k ⊢
    by_cases e : a = b
    · subst e
      rw [if_pos rfl] at h
      by_cases f : a = c
      · rw [if_pos f] at k ⊢
        exact lexI_tr x y z h k
      · rw [if_neg f] at k ⊢
        exact k
    · rw [if_neg e] at h
      by_cases f : b = c
      · subst f
        rw [if_neg e]
        exact h
      · rw [if_neg f] at k
        by_cases g : a = c
        · subst g
          exact absurd (ltI_con a b h k) e
        · rw [if_neg g]
          exact ltI_tr a b c h k
theorem swo_lexI (k : Value → List It) : Swo fun v u => lexI (k v) (k u) := ⟨fun x y h => lexI_irr _ _ h, fun x y z h1 h2 => lexI_tr _ _ _ h2 h1⟩
def ItV (P : Program) (w : World) (h : Heap) : It → Value → Prop
  | .n i, v => ∃ t, v = .int i t
  | .t ks, v => ∃ a, v = .ref a ∧ IsT P w h ks a
inductive ItVs (P : Program) (w : World) (h : Heap) : List It → List Value → Prop
  | nil : ItVs P w h [] []
  | cons {x : It} {v : Value} {xs : List It} {vs : List Value} : ItV P w h x v → ItVs P w h xs vs → ItVs P w h (x :: xs) (v :: vs)
/-- v is the row r -/
def IsR (P : Program) (w : World) (h : Heap) (r : List It) (v : Value) : Prop := ∃ (a : Addr) (o : Obj) (its : List Value) (n : Nat), v = .ref a ∧ h.get? a = some o ∧ o.cls = .type "tuple" ∧ o.data = .seq its.toArray n ∧ ItVs P w h r its
section
variable {P : Program} {w : World} {A : Around} {E : Value → Shared → Prop} {s : Shared}
theorem ItV.keeps {h h' : Heap} (k : ∀ b o, h.get? b = some o → o.cls = .type "tuple" → h'.get? b = some o) : ∀ {x : It} {v : Value}, ItV P w h x v → ItV P w h' x v
  | .n _, _, h => h
  | .t ks, _, ⟨a, e, o, items, n, ho, hc, r⟩ => ⟨a, e, o, items, n, k a o ho hc, hc, r⟩
theorem ItVs.keeps {h h' : Heap} (k : ∀ b o, h.get? b = some o → o.cls = .type "tuple" → h'.get? b = some o) : ∀ {xs : List It} {vs : List Value}, ItVs P w h xs vs → ItVs P w h' xs vs
  | _, _, .nil => .nil
  | _, _, .cons x y => .cons (x.keeps k) (y.keeps k)
theorem IsR.keeps {h h' : Heap} {r : List It} {v : Value} (x : IsR P w h r v) (k : ∀ b o, h.get? b = some o → o.cls = .type "tuple" → h'.get? b = some o) : IsR P w h' r v :=
  let ⟨a, o, its, n, e, ho, hc, hd, q⟩ := x; ⟨a, o, its, n, e, k a o ho hc, hc, hd, q.keeps k⟩
theorem reads_ints {h : Heap} {ks : List Int} {vs : List Value} (x : ItemsAre (intKind P w) ks vs) : ReadsAll h vs (ks.map PyData.int) [] := by
  induction x with
  | nil => exact .nil
  | @cons k v ks vs h1 _ ih =>
    obtain ⟨t, rfl⟩ := Value.isInt_shape h1
    exact ReadsAll.cons (as := []) (bs := []) (.int k t) ih
theorem alike_ints : ∀ (x y : List Int), PySem.W.alikeAll (x.map PyData.int) (y.map PyData.int) = true
  | [], y => by cases y <;> rfl
  | _ :: _, [] => rfl
  | a :: x, b :: y => by
    show (PySem.W.alike (.int a) (.int b) && PySem.W.alikeAll (x.map PyData.int) (y.map PyData.int)) = true
    rw [alike_ints x y]
    rfl
theorem depth_ints : ∀ (x : List Int), PyData.depthAll (x.map PyData.int) = 0
  | [] => rfl
  | a :: x => by
    have z := depth_ints x
    simp only [List.map_cons, PyData.depthAll, PyData.depth, z, Nat.max_self]
theorem lexL_lt : ∀ x y : List Int, lexL x y = decide (x < y)
  | [], [] => by simp [lexL]
  | [], _ :: _ => by simp [lexL]
  | _ :: _, [] => by simp [lexL]
  | a :: x, b :: y => by
    rw [lexL, lexL_lt x y]
    by_cases e : a = b
    · subst e
      simp [List.cons_lt_cons_iff]
    · rw [if_neg e]
      simp [List.cons_lt_cons_iff, e]
theorem dataLt_rows (x y : List Int) : PySem.W.dataLt (.tuple (x.map .int)) (.tuple (y.map .int)) = lexL x y := by
  rw [PySem.W.dataLt_tuple, lexL_lt]
  exact PySem.W.dataLt_ints x y
theorem lt_tups {a b : Addr} {x y : List Int} (hu : A.units + 3 < cLine) (ha : IsT P w s.heap x a) (hb : IsT P w s.heap y b) : PySem.SeqAt.RcLt A s (.ref a) (.ref b) (lexL x y) := by
  obtain ⟨o, items, n, ho, hc, hd, hi⟩ := ha
  obtain ⟨o2, items2, n2, ho2, hc2, hd2, hi2⟩ := hb
  rw [← dataLt_rows]
  refine PySem.W.rcLt_alike _ _ A s _ _ [] [] (.tuple ho hc hd (reads_ints hi)) (.tuple ho2 hc2 hd2 (reads_ints hi2)) ?_ (fun z => by cases z) ?_
  · show PySem.W.alikeAll _ _ = true
    exact alike_ints x y
  · simp only [PyData.depth, depth_ints]
    omega
theorem kat_its {b fin : Bool} (hu : A.units + 3 < cLine) : ∀ (xs ys : List Value) (ms ns : List It) (i : Nat), ItVs P w s.heap ms xs → ItVs P w s.heap ns ys → ms.map It.flat = ns.map It.flat → (i = 0 → ∀ m ms', ms = m :: ms' → m.flat = false → b = false) → fin = false →
    PySem.W.KatLex P w A b fin (fun r s' => s' = s ∧ r = lexI ms ns) (xs.zip ys) i s
  | _, _, [], [], i, .nil, .nil, _, _, e => PySem.W.kat_nil ⟨rfl, e⟩
  | _, _, [], _ :: _, i, _, _, h, _, _ => by simp at h
  | _, _, _ :: _, [], i, _, _, h, _, _ => by simp at h
  | x :: xs, y :: ys, m :: ms, n :: ns, i, .cons r1 h1, .cons r2 h2, hf, hb, e => by
    simp only [List.map_cons, List.cons.injEq] at hf
    have go : ∀ (d : Bool), d = decide (m = n) → (m ≠ n → wpAny (model P w) A (oneLt' (b && i == 0) x y) (fun r s' => s' = s ∧ r = lexI (m :: ms) (n :: ns)) (fun _ _ => False) s) → PySem.W.KatGo P w A b fin (fun r s' => s' = s ∧ r = lexI (m :: ms) (n :: ns)) x y (xs.zip ys) i d s := fun d ed no => by
      refine PySem.W.kat_go (fun e1 => ?_) (fun e1 => ?_)
      · have ex : m = n := by rw [ed] at e1; simpa using e1
        have e3 : lexI (m :: ms) (n :: ns) = lexI ms ns := by rw [lexI, if_pos ex]
        rw [e3]
        exact PySem.W.kat_yes (kat_its hu xs ys ms ns (i + 1) h1 h2 hf.2 (fun z => absurd z (Nat.succ_ne_zero i)) e)
      · have ex : ¬ m = n := by rw [ed] at e1; simpa using e1
        exact PySem.W.kat_no (no ex)
    match m, n, r1, r2 with
    | .n j, .n k, ⟨t, ht⟩, ⟨u, hu2⟩ =>
      subst ht hu2
      refine PySem.W.kat_cons (SeqAt.EqAt.int_int j t k u P w _ _ (go _ (decide_eq_decide.mpr ⟨fun z => by rw [z], fun z => by injection z⟩) fun ne => TS.oneLt_ints _ ⟨rfl, ?_⟩))
      rw [lexI, if_neg ne]
      rfl
    | .t j, .t k, ⟨a, ea, ha⟩, ⟨c, ec, hc⟩ =>
      subst ea ec
      refine PySem.W.kat_cons (wpAny_eqBool_tuple (by omega) ha hc (go _ (decide_eq_decide.mpr ⟨fun z => by rw [z], fun z => by injection z⟩) fun ne => ?_))
      have eb : (b && i == 0) = false := by
        by_cases z : i = 0
        · rw [hb z _ _ rfl rfl]; rfl
        · rw [show (i == 0) = false from by simpa using z, Bool.and_false]
      rw [eb]
      refine PySem.W.kat_one _ _ (lt_tups hu ha hc P w _ _ ?_)
      show _ ∧ _
      refine ⟨rfl, ?_⟩
      rw [lexI, if_neg ne]
      rfl
    | .n _, .t _, _, _ => simp [It.flat] at hf
    | .t _, .n _, _, _ => simp [It.flat] at hf
theorem row_cmp {vs : List Value} {k : Value → List It} {sh : List Bool} {b : Bool} (hu : A.units + 3 < cLine) (hp : ∀ v ∈ vs, IsR P w s.heap (k v) v ∧ (k v).map It.flat = sh) (hb : ∀ r, sh = false :: r → b = false) : Cmp P w A s (tuples' b) (fun p => p.1 ∈ vs) (lt2 fun v u => lexI (k v) (k u)) := by
  intro p q hm hm'
  obtain ⟨⟨a, o, its, n, e, ho, hc, hd, r⟩, f⟩ := hp _ hm
  obtain ⟨⟨a', o', its', n', e', ho', hc', hd', r'⟩, f'⟩ := hp _ hm'
  show wpAny (model P w) A (keyLt' (tuples' b) p.1 q.1) (fun r s' => s' = s ∧ r = lexI (k p.1) (k q.1)) (fun _ _ => False) s
  generalize k p.1 = ms at r f ⊢
  generalize k q.1 = ns at r' f' ⊢
  rw [e, e']
  have len : ∀ {x : List It} {y : List Value}, ItVs P w s.heap x y → y.length = x.length := fun h => by
    induction h with
    | nil => rfl
    | cons _ _ ih => rw [List.length_cons, List.length_cons, ih]
  have l2 : its.length = its'.length := by
    have z := congrArg List.length (f.trans f'.symm)
    rw [List.length_map, List.length_map] at z
    rw [len r, len r', z]
  refine PySem.W.kat_lt ho hd ho' hd' (kat_its hu _ _ ms ns 0 r r' (f.trans f'.symm) (fun _ m ms' em fm => ?_) ?_)
  · refine hb (ms'.map It.flat) ?_
    rw [← f, em, List.map_cons, fm]
  · rw [List.size_toArray, List.size_toArray, l2]
    simp
theorem row_firsts {h : Heap} {k : Value → List It} {c : Bool} : ∀ {vs : List Value}, (∀ v ∈ vs, IsR P w h (k v) v ∧ ∃ sh, (k v).map It.flat = c :: sh) → ∃ fs : List Value, PySem.W.KatTups h vs fs ∧ fs.length = vs.length ∧ ∀ f ∈ fs, ∃ x, ItV P w h x f ∧ x.flat = c
  | [], _ => ⟨[], PySem.W.KatTups.nil, rfl, fun _ hm => by simp at hm⟩
  | v :: vs, hp => by
    obtain ⟨fs, h1, h2, h3⟩ := row_firsts (vs := vs) fun v' hm => hp v' (List.mem_cons_of_mem _ hm)
    obtain ⟨⟨a, o, its, n, e, ho, hc, hd, r⟩, sh, ne⟩ := hp v (List.mem_cons_self ..)
    generalize k v = ms at r ne
    subst e
    cases r with
    | nil => simp at ne
    | @cons x u xs us r1 r2 =>
      simp only [List.map_cons, List.cons.injEq] at ne
      refine ⟨u :: fs, PySem.W.KatTups.cons ho hc hd (by simp) h1, by rw [List.length_cons, List.length_cons, h2], fun f hm => ?_⟩
      rcases List.mem_cons.mp hm with rfl | hm
      · exact ⟨x, r1, ne.1⟩
      · exact h3 f hm
theorem rows_sortableO {a : Addr} {vs : List Value} {k : Value → List It} {sh : List Bool} (hu : A.units + 3 < cLine) (h0 : 0 < vs.length) (hp : ∀ v ∈ vs, IsR P w s.heap (k v) v ∧ (k v).map It.flat = sh) (hne : sh ≠ []) (ha : ∀ o, s.heap.get? a = some o → o.cls ≠ .type "tuple") : SortableO P w A s a vs fun v u => lexI (k v) (k u) := by
  intro h' keep
  have hp' : ∀ v ∈ vs, IsR P w h' (k v) v ∧ (k v).map It.flat = sh := fun v hm => ⟨(hp v hm).1.keeps fun b o e c => keep b o (fun z => by subst z; exact ha o e c) e, (hp v hm).2⟩
  obtain ⟨c, sh', rfl⟩ : ∃ c sh', sh = c :: sh' := by
    cases sh with
    | nil => exact absurd rfl hne
    | cons c sh' => exact ⟨c, sh', rfl⟩
  obtain ⟨fs, h1, h2, h3⟩ := row_firsts (c := c) fun v hm => ⟨(hp' v hm).1, sh', (hp' v hm).2⟩
  refine ⟨tuples' c, fun Q E hq => ?_, row_cmp hu (s := { s with heap := h' }) (fun v hm => hp' v hm) fun r er => by injection er⟩
  cases c with
  | true =>
    refine PySem.W.kat_kind (T := .type "int") h1 (by omega) (fun f hm => ?_) (by rfl) ?_
    · obtain ⟨x, hx, ex⟩ := h3 f hm
      cases x with
      | n i =>
        obtain ⟨t, rfl⟩ := hx
        exact PySem.W.Looks.now
      | t _ => cases ex
    · have e : (Value.type "int" != Value.type "tuple") = true := by first | decide +kernel | rfl | decide
      rw [e]
      exact hq
  | false =>
    refine PySem.W.kat_kind (T := .type "tuple") h1 (by omega) (fun f hm => ?_) (by rfl) ?_
    · obtain ⟨x, hx, ex⟩ := h3 f hm
      cases x with
      | n i => cases ex
      | t ks =>
        obtain ⟨b, rfl, o, items, n, ho, hc, _⟩ := hx
        exact fun A Q E s k q => wpAny_typeOf_ref (k _ _ ho) (by rw [hc]; exact q)
    · have e : (Value.type "tuple" != Value.type "tuple") = false := by first | decide +kernel | rfl | decide
      rw [e]
      exact hq
end
end KN
set_option Elab.async false
set_option linter.all false
set_option maxRecDepth 100000
set_option maxHeartbeats 3200000
namespace KN
open PySem PySem.Spec PyProof.Rows L2 TS KW SrtO
def unN : NestedKey → Int
  | .num i => i
  | _ => 0
def unI : NestedKey → It
  | .num i => .n i
  | .tup ks => .t (ks.map unN)
  | _ => .n 0
def unK : NestedKey → List It
  | .tup ks => ks.map unI
  | _ => []
theorem unN_num (ks : List Int) : (ks.map NestedKey.num).map unN = ks := by
  rw [List.map_map]
  conv => rhs; rw [← List.map_id ks]
  exact List.map_congr_left fun _ _ => rfl
theorem unI_key : ∀ x : It, unI x.key = x
  | .n i => rfl
  | .t ks => by simp only [It.key, unI, unN_num]
theorem unK_row (r : List It) : unK (rowK r) = r := by
  simp only [rowK, unK, List.map_map]
  conv => rhs; rw [← List.map_id r]
  exact List.map_congr_left fun x _ => unI_key x
/-- rows at their places, as keys -/
def kps (L : List (Addr × List It)) : List (Addr × NestedKey) := L.map fun p => (p.1, rowK p.2)
def SetNO (P : Program) (w : World) (a : Addr) (L : List (Addr × List It)) : HO := KN.SetBO P w a (kps L)
section
variable {X : Cx} {pins : List (Addr × Obj)} {σ : L2.St} {H : Hp} {s : Shared}
theorem isN_of (I : Inv X pins σ H s) {a : Addr} {r : List It} (h : KD.KeyIs H (.ref a) (rowK r)) : IsN X.prog X.w s.heap (rowK r) a :=
  ⟨key_nested I h rfl, Nat.le_trans (rowK_deep r) (by decide), rowK_nums r⟩
theorem keys_ints : ∀ {vs : List V} {ks : List Int}, KD.KeysIs H vs (ks.map NestedKey.num) → vs = ks.map V.int
  | [], [], _ => rfl
  | [], _ :: _, h => by cases h
  | _ :: _, [], h => by cases h
  | v :: vs, k :: ks, h => by
    cases h with
    | cons h1 h2 =>
      cases h1
      rw [keys_ints h2]
      rfl
theorem itVs_of (I : Inv X pins σ H s) : ∀ {vs : List V} {r : List It} {us : List Value}, KD.KeysIs H vs (r.map It.key) → Vals vs us → ItVs X.prog X.w s.heap r us
  | [], [], _, _, g => by cases g; exact .nil
  | [], _ :: _, _, h, _ => by cases h
  | _ :: _, [], _, h, _ => by cases h
  | v :: vs, .n i :: r, _, h, g => by
    cases h with
    | cons h1 h2 =>
      cases g with
      | cons g1 g2 =>
        cases h1
        obtain ⟨t, rfl⟩ := g1
        exact .cons ⟨t, rfl⟩ (itVs_of I h2 g2)
  | v :: vs, .t ks :: r, _, h, g => by
    cases h with
    | cons h1 h2 =>
      cases g with
      | cons g1 g2 =>
        generalize ek : It.key (.t ks) = kk at h1
        cases h1 with
        | none => cases ek
        | num _ => cases ek
        | text _ => cases ek
        | @tup a ws ks' hh q =>
          simp only [It.key, NestedKey.tup.injEq] at ek
          subst ek
          rw [keys_ints q] at hh
          cases (show _ = Value.ref a from g1)
          have sq : SqT X.K H a (ks.map V.int) := hh.elim (fun h => .inl (.inl h)) fun h => h.sq
          exact .cons ⟨a, rfl, I.isT sq⟩ (itVs_of I h2 g2)
theorem isR_of (I : Inv X pins σ H s) {a : Addr} {r : List It} (h : KD.KeyIs H (.ref a) (rowK r)) : IsR X.prog X.w s.heap r (.ref a) := by
  generalize ek : rowK r = kk at h
  cases h with
  | @tup _ vs ks hh q =>
    simp only [rowK, NestedKey.tup.injEq] at ek
    subst ek
    have sq : SqT X.K H a vs := hh.elim (fun h => .inl (.inl h)) fun h => h.sq
    obtain ⟨its, rv, ⟨ob, ho, hc, n, hd⟩, _⟩ := I.tuple sq
    exact ⟨a, ob, its, n, rfl, ho, hc, hd, itVs_of I q (by simpa using rv)⟩
def rSetOfN (K : PySem.W.Frag) (P : Program) (w : World) : List V → Hp → VK → Prop := fun xs H Q => ∃ (l : Addr) (ks : List (Addr × List It)), xs = [V.ref l] ∧ SqL K H l (ks.map fun p => V.ref p.1) ∧ (∀ p ∈ ks, KD.KeyIs H (.ref p.1) (rowK p.2)) ∧ ks.length < 1000 ∧
  ∀ a L, H a = none → (∀ p ∈ L, p ∈ ks) → (∀ p ∈ ks, p.2 ∈ L.map (·.2)) → Q (.ref a) (upd H a (SetNO P w a L))
theorem kps_ref (ks : List (Addr × List It)) : (kps ks).map (fun p => Value.ref p.1) = ks.map fun p => Value.ref p.1 := by
  unfold kps
  rw [List.map_map]
  rfl
theorem cr_setOfN {K : PySem.W.Frag} {P : Program} {w : World} (hK : X.K = K) (hP : X.prog = P) (hw : X.w = w) (hc : X.calm = true) (hu : X.A.units + 64 < cLine) : CallR X (.type "set") (rSetOfN K P w) := by
  subst hK hP hw
  intro pins st σ H xs us Q I rel hyp
  obtain ⟨l, ks, rfl, hl, hk, few, q⟩ := hyp
  rw [Vals.ref1 rel]
  obtain ⟨its, rv, pl, hz⟩ := I.list hl
  have fresh : H st.heap.objs.size = none := I.hok.fresh (Nat.le_refl _)
  have lk : (kps ks).length = ks.length := List.length_map _
  refine KN.set_of_tuples (P := X.prog) (w := X.w) (kps ks) (I.ok.hd hc) pl.isList (by
    have z := refs_of_vals (ks := ks.map fun p => (p.1, ([] : List Int))) (by rw [List.map_map]; exact rv)
    rw [List.map_map] at z
    rw [kps_ref]
    have z2 : its = ks.map fun p => Value.ref p.1 := z
    simpa using z2) (fun p hp => ?_) (by rw [lk]; exact few) (by omega) fun h2 tk T es ep t R g k => ?_
  · obtain ⟨p0, m0, rfl⟩ := List.mem_map.mp hp
    exact isN_of I (hk p0 m0)
  · have back : kps (T.map fun e => (e.2.1, unK e.2.2)) = T.map (·.2) := by
      unfold kps
      rw [List.map_map]
      refine List.map_congr_left fun e me => ?_
      have z := List.mem_of_mem_take (g.sub e me)
      obtain ⟨p0, m0, e0⟩ := List.mem_map.mp z
      show (e.2.1, rowK (unK e.2.2)) = e.2
      rw [← e0]
      show (p0.1, rowK (unK (rowK p0.2))) = (p0.1, rowK p0.2)
      rw [unK_row]
    have new := R.small
    rw [← back] at new
    refine ⟨.ref st.heap.objs.size, _, I.laid (t' := tk) k (Nat.le_refl _) (setBO_new new), rfl, q _ _ fresh (fun p hp => ?_) fun p hp => ?_⟩
    · obtain ⟨e, me, rfl⟩ := List.mem_map.mp hp
      have z := List.mem_of_mem_take (g.sub e me)
      obtain ⟨p0, m0, e0⟩ := List.mem_map.mp z
      rw [← e0]
      show (p0.1, unK (rowK p0.2)) ∈ ks
      rw [unK_row]
      exact m0
    · have z := g.all (p.1, rowK p.2) (by rw [List.take_length]; exact List.mem_map.mpr ⟨p, hp, rfl⟩)
      obtain ⟨e, me, ee⟩ := List.mem_map.mp z
      refine List.mem_map.mpr ⟨(e.2.1, unK e.2.2), List.mem_map.mpr ⟨e, me, rfl⟩, ?_⟩
      show unK e.2.2 = p.2
      rw [ee]
      exact unK_row p.2
def rSortSetN (K : PySem.W.Frag) (P : Program) (w : World) : List V → Hp → VK → Prop := fun vs H Q => ∃ (a : Addr) (L : List (Addr × List It)) (sh : List Bool), vs = [.ref a] ∧ H a = some (SetNO P w a L) ∧ (∀ p ∈ L, KD.KeyIs H (.ref p.1) (rowK p.2) ∧ p.2.map It.flat = sh) ∧ sh ≠ [] ∧
  ∀ (M : List (Addr × List It)) (p : Addr), M.Perm L → (M.map (·.2)).Nodup → M.Pairwise (fun a b => lexI b.2 a.2 = false) → H p = none → Q (.ref p) (upd H p (.lst (M.map fun q => V.ref q.1)))
/-- the row that stands at v -/
def rowAtN (L : List (Addr × List It)) (v : Value) : List It := ((L.find? fun p => Value.ref p.1 == v).map (·.2)).getD []
theorem cr_sortSetN {K : PySem.W.Frag} {P : Program} {w : World} (hK : X.K = K) (hP : X.prog = P) (hw : X.w = w) (hc : X.calm = true) (hu : X.A.units + 64 < cLine) : CallR X (.builtin "sorted") (rSortSetN K P w) := by
  subst hK hP hw
  intro pins s σ H vs us Q I r h
  obtain ⟨a, L, sh, rfl, ha, hk, hsh, q⟩ := h
  rw [Vals.ref1 r]
  obtain ⟨T, es, ep, t, eL, R⟩ := KN.SetB0.whole (I.hok _ _ ha).1 fun p hp => by
    obtain ⟨p0, m0, rfl⟩ := List.mem_map.mp hp
    exact isN_of I (hk p0 m0).1
  obtain ⟨o, ho, hex, hd⟩ := R.ob
  have hes : es.toList.map (·.2) = L.map fun p => Value.ref p.1 := by
    rw [R.ents, ← kps_ref L, eL]
    unfold KN.esOf
    rw [List.map_map, List.map_map]
    rfl
  have one : ∀ p ∈ L, rowAtN L (.ref p.1) = p.2 := fun p hp => by
    unfold rowAtN
    cases e : L.find? fun q => Value.ref q.1 == Value.ref p.1 with
    | none =>
      rw [List.find?_eq_none] at e
      exact absurd (by simp) (e p hp)
    | some p' =>
      have m' := List.mem_of_find?_eq_some e
      have e1 := List.find?_some e
      have ea : p'.1 = p.1 := by simpa using e1
      have n1 := (isN_of I (hk p hp).1).is
      have n2 := (isN_of I (hk p' m').1).is
      rw [ea] at n2
      exact rowK_inj (NestedIs.inj _ _ _ n2 n1)
  have ht : ∀ vs : List Value, vs.Perm (es.toList.map (·.2)) → ∀ v ∈ vs, ∃ p ∈ L, v = .ref p.1 ∧ IsR X.prog X.w s.heap (rowAtN L v) v ∧ (rowAtN L v).map It.flat = sh := fun vs pm v hv => by
    have m := pm.mem_iff.mp hv
    rw [hes] at m
    obtain ⟨p, mp, rfl⟩ := List.mem_map.mp m
    refine ⟨p, mp, rfl, ?_, by rw [one p mp]; exact (hk p mp).2⟩
    rw [one p mp]
    exact isR_of I (hk p mp).1
  have se : es.size = T.length := KN.ents_size R.ents
  have few := R.most
  refine sort_set (swo_lexI fun v => rowAtN L v) (I.ok.hd hc) ⟨o, ho, hex.1, hd⟩ R.fit (by unfold scanBound; omega) R.tab.ris' R.led (fun vs pm h2 s1 b hb kk => ?_) fun vs s2 d out pm h1 hs kp hg ho2 hd2 hn2 => ?_
  · refine rows_sortableO (sh := sh) (by simp only [Around.in1_units]; omega) (by omega) (fun v hm => ?_) hsh fun o e => ?_
    · obtain ⟨p, _, _, h3, h4⟩ := ht vs pm v hm
      exact ⟨h3.keeps fun b o e _ => (kk b o e).2, h4⟩
    · have z : some o = some (seqObj "list" vs.toArray 0) := e.symm.trans hb
      cases z
      intro y
      exact absurd (Value.type.inj y) (by decide)
  · obtain ⟨c, hn2⟩ := hn2
    have pm2 : out.Perm (es.toList.map (·.2)) := hs.perm.trans pm
    have mo := ht out pm2
    have lo : out.length ≤ sizeLine := by
      rw [pm2.length_eq, List.length_map, Array.length_toList, sizeLine_eq]
      omega
    have hn : H d = none := I.hok.fresh hd2
    have ev : (out.map fun v => (adrAt v, rowAtN L v)).map (fun q => V.ref q.1) = out.map backV := by
      rw [List.map_map]
      refine List.map_congr_left fun v hv => ?_
      obtain ⟨p, _, rfl, _⟩ := mo v hv
      rfl
    have pT : (out.map fun v => (adrAt v, rowAtN L v)).Perm L := by
      have z := pm2.map fun v => (adrAt v, rowAtN L v)
      rw [hes, List.map_map] at z
      have e : L.map ((fun v => (adrAt v, rowAtN L v)) ∘ fun p => Value.ref p.1) = L := by
        conv => rhs; rw [← List.map_id L]
        refine List.map_congr_left fun p mp => ?_
        show (p.1, rowAtN L (.ref p.1)) = p
        rw [one p mp]
      rw [e] at z
      exact z
    have nd : ((out.map fun v => (adrAt v, rowAtN L v)).map (·.2)).Nodup := by
      refine (pT.map (·.2)).nodup_iff.mpr ?_
      have k0 := R.keys
      have k1 : (T.map fun e => e.2.2) = (L.map (·.2)).map rowK := by
        have z := congrArg (List.map fun p : Addr × NestedKey => p.2) eL
        unfold kps at z
        rw [List.map_map, List.map_map] at z
        rw [List.map_map]
        exact z.symm
      rw [k1] at k0
      exact List.Pairwise.of_map (S := fun a b : NestedKey => a ≠ b) rowK (fun a b h e => h (by rw [e])) k0
    have J2 : Inv X pins σ (upd H d (.lst (out.map backV))) s2 := I.call' (ch := []) ho2 (Un.laid kp hd2 hn) (I.hok.laid kp hd2 ⟨by rw [List.length_map]; exact lo, out, c, vals_back (fun u hu => by obtain ⟨p, _, e, _⟩ := mo u hu; exact ⟨_, e⟩), hn2⟩) (by rw [hg]; exact I.bare) (fun _ z => nomatch z)
    refine ⟨.ref d, _, J2, rfl, ?_⟩
    rw [← ev]
    exact q _ d pT nd (List.pairwise_map.mpr h1) hn
end
end KN
set_option Elab.async false
set_option linter.all false
set_option maxRecDepth 100000
set_option maxHeartbeats 1000000
namespace KD
open PySem PySem.Spec PyProof.Rows L2 KW
open KN (rowK lexI)
section
variable {Ω : Obs} {A : Am} {E : XK} {K : PySem.W.Frag} {P : Program} {w : World} {ta tb tc td : TE} {ma mb mc md : M D}
/-- the row that a thing is -/
abbrev RowD (x : D) (r : List KN.It) : Prop := nkT x = some (rowK r)
def mSortSetN (a : M D) : M (List D) := a.bind fun x => ⟨fun _ Q _ => ∃ (xs : List D) (rows : List (List KN.It)) (sh : List Bool), x = .lst xs ∧ Paired RowD xs rows ∧ rows.length < 1000 ∧ (∀ r ∈ rows, r.map KN.It.flat = sh) ∧ sh ≠ [] ∧
  ∀ (zs : List D) (rs : List (List KN.It)), Paired RowD zs rs → (∀ z ∈ zs, z ∈ xs) → rs.Nodup → rs.Pairwise (fun a b => lexI b a = false) → (∀ r, r ∈ rs ↔ r ∈ rows) → Q zs,
  fun h _ ⟨xs, rows, sh, a, b, c, d, e, q⟩ => ⟨xs, rows, sh, a, b, c, d, e, fun zs rs x y z u v => h _ (q zs rs x y z u v)⟩⟩
theorem reps_rowsN {G : Hp} : ∀ {vs : List V} {xs : List D} {rows : List (List KN.It)}, Reps Ω G vs xs → Paired RowD xs rows → ∃ ks : List (Addr × List KN.It), vs = ks.map (fun p => V.ref p.1) ∧ ks.map (·.2) = rows ∧ ∀ p ∈ ks, KeyIs G (.ref p.1) (rowK p.2) ∧ ∃ x ∈ xs, Rep Ω G (.ref p.1) x ∧ RowD x p.2
  | _, _, _, .nil, .nil => ⟨[], rfl, rfl, (fun p h => nomatch h)⟩
  | _, _, _, .cons r t, .cons h p => by
    obtain ⟨ks, e1, e2, e3⟩ := reps_rowsN t p
    obtain ⟨a, rfl, ky⟩ := r.nkt h
    refine ⟨(a, _) :: ks, by rw [e1]; rfl, by rw [List.map_cons, e2], fun p hp => ?_⟩
    rcases List.mem_cons.mp hp with rfl | hp
    · exact ⟨ky, _, List.mem_cons_self, r, h⟩
    · obtain ⟨q1, x, mx, q2⟩ := e3 p hp
      exact ⟨q1, x, List.mem_cons_of_mem _ mx, q2⟩
theorem reps_pickN {G : Hp} {xs : List D} : ∀ {M : List (Addr × List KN.It)}, (∀ p ∈ M, ∃ x ∈ xs, Rep Ω G (.ref p.1) x ∧ RowD x p.2) → ∃ zs, Reps Ω G (M.map fun q => V.ref q.1) zs ∧ Paired RowD zs (M.map (·.2)) ∧ ∀ z ∈ zs, z ∈ xs
  | [], _ => ⟨[], .nil, .nil, (fun _ h => nomatch h)⟩
  | p :: M, h => by
    obtain ⟨x, mx, r, e⟩ := h p List.mem_cons_self
    obtain ⟨zs, q1, q2, q3⟩ := reps_pickN (M := M) fun q m => h q (List.mem_cons_of_mem _ m)
    exact ⟨x :: zs, .cons r q1, .cons e q2, fun z hz => by
      rcases List.mem_cons.mp hz with rfl | hz
      · exact mx
      · exact q3 z hz⟩
theorem do_sortSetN (h : Den Ω A E ta ma) : DenO Ω A E (tCB (KN.rSortSetN K P w) (tCons (tCB (KN.rSetOfN K P w) (tCons ta tNil)) tNil)) (mSortSetN ma) := fun G σ env H Q Ex k f q =>
  h G σ env H _ Ex k f (ma.mono (fun x q G1 v1 H1 t1 r1 => by
    obtain ⟨xs, rows, sh, rfl, pr, few, hsh, ne, q⟩ := q
    obtain ⟨a, us, rfl, h1, ru⟩ := r1.lstv rfl
    obtain ⟨ks, rfl, er, hk⟩ := reps_rowsN ru pr
    subst er
    refine ⟨a, ks, rfl, SqL.of (t1.fr.sub _ _ h1), fun p hp => (hk p hp).1.mono t1.fr.sub, by rw [List.length_map] at few; exact few, fun s L hs l1 l2 => ?_⟩
    have t2 := Tr.alloc t1.fr (o := KN.SetNO P w s L) hs (fun _ z => nomatch z)
    refine ⟨s, L, sh, rfl, upd_same, fun p hp => ⟨(hk p (l1 p hp)).1.mono (t2.sub.trans t2.fr.sub), hsh p.2 (List.mem_map.mpr ⟨p, l1 p hp, rfl⟩)⟩, ne, fun M p pm nd so hp => ?_⟩
    obtain ⟨zs, z1, z2, z3⟩ := reps_pickN (M := M) fun p hp => (hk p (l1 p (pm.mem_iff.mp hp))).2
    have t3 := Tr.allocOwn t2.fr (o := .lst (M.map fun q => V.ref q.1)) hp
    refine q zs _ z2 z3 nd (List.pairwise_map.mpr so) (fun r => ⟨fun m => ?_, fun m => ?_⟩) _ p _ _ ((t1.trans t2).trans t3) (.of (t1.trans t2) hp) upd_same (z1.mono t2.sub) (t2.fr.sub.free hp) (A.fr t2.fr.inv hp)
    · obtain ⟨q, mq, rfl⟩ := List.mem_map.mp m
      exact List.mem_map.mpr ⟨q, l1 q (pm.mem_iff.mp mq), rfl⟩
    · obtain ⟨q, mq, rfl⟩ := List.mem_map.mp m
      exact (pm.map (·.2)).mem_iff.mpr (l2 q mq)) q)
end
end KD
set_option Elab.async false
set_option linter.all false
set_option maxRecDepth 100000
set_option maxHeartbeats 1000000
namespace KD
open PySem PySem.Spec PyProof.Rows L2 KW
section
variable {Ω : Obs} {A : Am} {E : XK} {K : PySem.W.Frag} {ta ts : TE} {ma ms : M D}
theorem Reps.app_ {G : Hp} : ∀ {us vs : List V} {xs ys : List D}, Reps Ω G us xs → Reps Ω G vs ys → Reps Ω G (us ++ vs) (xs ++ ys)
  | _, _, _, _, .nil, b => b
  | _, _, _, _, .cons r a, b => .cons r (Reps.app_ a b)
theorem Reps.rev {G : Hp} : ∀ {us : List V} {xs : List D}, Reps Ω G us xs → Reps Ω G us.reverse xs.reverse
  | _, _, .nil => .nil
  | _, _, .cons r rs => by
    rw [List.reverse_cons, List.reverse_cons]
    exact Reps.app_ (Reps.rev rs) (.cons r .nil)
def gRev (x y : D) : M (List D) := ⟨fun _ Q _ => ∃ xs, x = .lst xs ∧ y = .int (-1) ∧ Q xs.reverse, fun h _ ⟨xs, a, b, q⟩ => ⟨xs, a, b, h _ q⟩⟩
def mRev (a s : M D) : M (List D) := a.bind fun x => s.bind fun y => gRev x y
theorem do_rev (h : Den Ω A E ta ma) (hs : Den Ω A E ts ms) : DenO Ω A E (KN.tRev K ta ts) (mRev ma ms) := fun G σ env H Q Ex k f q =>
  h G σ env H _ Ex k f (ma.mono (fun x q G1 v1 H1 t1 r1 => hs G1 σ env H1 _ Ex (k.tr t1) (f.tr t1) (ms.mono (fun y q3 G3 v3 H3 t3 r3 => by
    obtain ⟨xs, rfl, rfl, q4⟩ := q3
    obtain ⟨a, us, rfl, h, ru⟩ := r1.lstv rfl
    have t13 := t1.trans t3
    have r4 := (ru.mono t3.sub).rev
    cases r3
    exact ⟨rfl, a, us, rfl, SqL.of (t3.fr.sub _ _ (t3.sub _ _ h)), fun p hp => q4 _ _ _ _ (t13.trans (Tr.allocOwn t3.fr hp)) (.of t13 hp) upd_same r4 (t3.fr.sub.free hp) (A.fr t3.fr.inv hp)⟩) q)) q)
end
end KD
set_option Elab.async false
set_option linter.all false
set_option maxRecDepth 100000
set_option maxHeartbeats 4000000
namespace KD
open PySem PySem.Spec PyProof.Rows L2 KW KC
/-- where a room's arrows lead, and where those come from that lead to it -/
def oE (ps : List (Nat × Nat)) (r : Nat) : List Nat := (idxs (ps.map fun p : Nat × Nat => p.1) r 0).map fun a => (ps.getD a (0, 0)).2
def iE (ps : List (Nat × Nat)) (r : Nat) : List Nat := (idxs (ps.map fun p : Nat × Nat => p.2) r 0).map fun a => (ps.getD a (0, 0)).1
def nbD (ps : List (Nat × Nat)) (r : Nat) : D := .tup [.lst ((oE ps r).map natD), .lst ((iE ps r).map natD)]
def clL (cs : List Nat) (es : List Nat) : List Int := isort (es.map fun e => ((cs.getD e 0 : Nat) : Int))
def lookD (ps : List (Nat × Nat)) (cs : List Nat) (r : Nat) : D := .tup [natD (cs.getD r 0), .ftup ((clL cs (oE ps r)).map .int), .ftup ((clL cs (iE ps r)).map .int)]
def mfNeighbours : MFO where
  n := 1
  wp := fun ds Q _ => ∃ (n : Nat) (ps : List (Nat × Nat)), ds = [webO n ps] ∧ Good n ps ∧ n ≤ 100 ∧ ps.length ≤ 400 ∧ Q ((List.range n).map (nbD ps))
  mono := fun h _ ⟨n, ps, a, b, c, d, q⟩ => ⟨n, ps, a, b, c, d, h _ q⟩
  len := fun ⟨n, ps, a, _⟩ => by rw [a]; rfl
def mfLooksOf : MFO where
  n := 2
  wp := fun ds Q _ => ∃ (n : Nat) (ps : List (Nat × Nat)) (cs : List Nat), ds = [.lst ((List.range n).map (nbD ps)), .lst (cs.map natD)] ∧ Good n ps ∧ n ≤ 100 ∧ ps.length ≤ 400 ∧ cs.length = n ∧ Q ((List.range n).map (lookD ps cs))
  mono := fun h _ ⟨n, ps, cs, a, b, c, d, e, q⟩ => ⟨n, ps, cs, a, b, c, d, e, h _ q⟩
  len := fun ⟨n, ps, cs, a, _⟩ => by rw [a]; rfl
def mfWithColour : MFO where
  n := 3
  wp := fun ds Q _ => ∃ (cs : List Nat) (r c : Nat), ds = [.lst (cs.map natD), natD r, natD c] ∧ r < cs.length ∧ cs.length ≤ 1000 ∧ Q ((cs.set r c).map natD)
  mono := fun h _ ⟨cs, r, c, a, b, d, q⟩ => ⟨cs, r, c, a, b, d, h _ q⟩
  len := fun ⟨cs, r, c, a, _⟩ => by rw [a]; rfl
theorem mapD_atL {l : List Nat} {k : Nat} (h : k < l.length) : (l.map natD)[k]? = some (natD (l.getD k 0)) := by
  rw [List.getElem?_map, List.getElem?_eq_getElem h, List.getD_eq_getElem?_getD, List.getElem?_eq_getElem h]
  rfl
theorem cut_from (xs : List D) (k : Nat) : cutD xs (some ((k : Int) + 1)) none = xs.drop (k + 1) := by
  unfold cutD
  rw [show ((k : Int) + 1) = ((k + 1 : Nat) : Int) by omega, HT.sIx_nat, HT.sIx_none]
  by_cases h : k + 1 ≤ xs.length
  · rw [Nat.min_eq_left h, List.take_of_length_le (by rw [List.length_drop]; omega)]
  · rw [Nat.min_eq_right (by omega), List.drop_of_length_le (by omega), List.drop_of_length_le (by omega), List.take_nil]
theorem set_cut {cs : List Nat} {r c : Nat} (h : r < cs.length) : ((cs.map natD).take r ++ [natD c]) ++ (cs.map natD).drop (r + 1) = (cs.set r c).map natD := by
  rw [List.set_eq_take_append_cons_drop, if_pos h, List.map_append, List.map_cons, List.map_take, List.map_drop, List.append_assoc]
  rfl
/-- the names that may come next -/
def chL (ns ones others : List Nat) : List Nat := (List.range ones.length).filter fun x => decide (others.getD x 0 = ones.getD ns.length 0)
def furD (ns ones others : List Nat) (x : Nat) : D := .tup [.tup ((ns ++ [x]).map natD), .lst ((ones.set ns.length ones.length).map natD), .lst ((others.set x ones.length).map natD)]
def mfFurther : MFO where
  n := 3
  wp := fun ds Q _ => ∃ (d : D) (ns ones others : List Nat), ds = [d, .lst (ones.map natD), .lst (others.map natD)] ∧ asTup d = some (ns.map natD) ∧ ns.length < ones.length ∧ others.length = ones.length ∧ ones.length ≤ 100 ∧ Q ((chL ns ones others).reverse.map (furD ns ones others))
  mono := fun h _ ⟨d, ns, o, p, a, b, c, e, f, q⟩ => ⟨d, ns, o, p, a, b, c, e, f, h _ q⟩
  len := fun ⟨d, ns, o, p, a, _⟩ => by rw [a]; rfl
section
variable {P : Program} {w : World} {K : PySem.W.Frag} {mg : Str → Option Value} {base : Heap} {Ω : Obs} {C : Addr}
abbrev sNeighbours : Stmt := topS 20
abbrev nNeighbours : List Str := ["web", "room", "arrow"]
theorem scNeighbours : FnScope nNeighbours ["web"] (defScope sNeighbours) := ⟨rfl, rfl, rfl, by decide +kernel, rfl, by decide +kernel, by decide +kernel⟩
theorem cal_Neighbours {f : Addr} {fd : FuncData} (F : Fun K "neighbours" "neighbours" sNeighbours f fd) (b : Binds K fd ["web"] []) (m : mg "neighbours" = some (.ref f)) (k : PySem.W.keepIn K (.ref f) = true) (cRooms : CalM P w K mg base CX0 1 C "rooms" ["self"] (spD Ω mfRooms)) (cIns : CalM P w K mg base CX0 2 C "ins" ["self", "room"] (spO Ω mfIns)) (cBegin : CalM P w K mg base CX0 3 C "begin" ["self", "arrow"] (spD Ω mfBegin)) (cOuts : CalM P w K mg base CX0 2 C "outs" ["self", "room"] (spO Ω mfOuts)) (cEnd : CalM P w K mg base CX0 3 C "end" ["self", "arrow"] (spD Ω mfEnd)) (TWeb : WebC K C) (W : WebΩ Ω C) (mRange : mg "range" = none) :
    Cal P w K mg base CX0 4 "neighbours" ["web"] (spO Ω mfNeighbours) := by
  refine ⟨f, fd, F.ok scNeighbours (fun vs H Q E h => spO_len h) (fun cdv A outer s H vs Q E hr h => ?_), b, m, k⟩
  obtain ⟨fRooms, fdRooms, GRooms, bRooms, mRooms⟩ := cRooms
  have hrRooms : Room 1 _ := hr.mono (by decide)
  have ioRooms : InsOf Ω 0 C "rooms" := web_ins W rfl (fun n q lv en => wf_meth n q lv en (by decide +kernel))
  obtain ⟨fIns, fdIns, GIns, bIns, mIns⟩ := cIns
  have hrIns : Room 2 _ := hr.mono (by decide)
  have ioIns : InsOf Ω 0 C "ins" := web_ins W rfl (fun n q lv en => wf_meth n q lv en (by decide +kernel))
  obtain ⟨fBegin, fdBegin, GBegin, bBegin, mBegin⟩ := cBegin
  have hrBegin : Room 3 _ := hr.mono (by decide)
  have ioBegin : InsOf Ω 0 C "begin" := web_ins W rfl (fun n q lv en => wf_meth n q lv en (by decide +kernel))
  obtain ⟨fOuts, fdOuts, GOuts, bOuts, mOuts⟩ := cOuts
  have hrOuts : Room 2 _ := hr.mono (by decide)
  have ioOuts : InsOf Ω 0 C "outs" := web_ins W rfl (fun n q lv en => wf_meth n q lv en (by decide +kernel))
  obtain ⟨fEnd, fdEnd, GEnd, bEnd, mEnd⟩ := cEnd
  have hrEnd : Room 3 _ := hr.mono (by decide)
  have ioEnd : InsOf Ω 0 C "end" := web_ins W rfl (fun n q lv en => wf_meth n q lv en (by decide +kernel))
  refine ⟨_, (pss_one (ps_ret (pe_lc (own := [("room", 1)]) (g := (gName 1)) (tt := tYes) rfl scNeighbours.nd (pi_range1 (by rfl) mRange (pa_cons (pe_meth0 (pv 0) TWeb.cl mRooms GRooms hrRooms bRooms .nil pass0) pa_nil)) (blkOk_by (own := [("room", 1)]) (N := nNeighbours) (sc := defScope sNeighbours) (by decide +kernel)) (fun _ _ _ _ _ => (pg_name (i := 1) scNeighbours.nd rfl (Or.inl rfl))) (fun _ _ _ _ _ => pts_nil) (fun _ _ _ _ _ => (pe_tup (pa_cons (pe_lc (own := [("arrow", 2)]) (g := (gName 2)) (tt := tYes) rfl scNeighbours.nd (pi_listK (K := K) rfl (pe_meth (pv 0) TWeb.cl mOuts GOuts hrOuts bOuts .nil pass0 (pa_cons (pv 1) pa_nil))) (blkOk_by (own := [("arrow", 2)]) (N := nNeighbours) (by rfl)) (fun _ _ _ _ _ => (pg_name (i := 2) scNeighbours.nd rfl (Or.inl rfl))) (fun _ _ _ _ _ => pts_nil) (fun _ _ _ _ _ => (pe_meth (pv 0) TWeb.cl mEnd GEnd hrEnd bEnd .nil pass0 (pa_cons (pv 2) pa_nil)))) (pa_cons (pe_lc (own := [("arrow", 2)]) (g := (gName 2)) (tt := tYes) rfl scNeighbours.nd (pi_listK (K := K) rfl (pe_meth (pv 0) TWeb.cl mIns GIns hrIns bIns .nil pass0 (pa_cons (pv 1) pa_nil))) (blkOk_by (own := [("arrow", 2)]) (N := nNeighbours) (by rfl)) (fun _ _ _ _ _ => (pg_name (i := 2) scNeighbours.nd rfl (Or.inl rfl))) (fun _ _ _ _ _ => pts_nil) (fun _ _ _ _ _ => (pe_meth (pv 0) TWeb.cl mBegin GBegin hrBegin bBegin .nil pass0 (pa_cons (pv 2) pa_nil)))) pa_nil))))))),
    run_pureO h 2 rfl (fun A => (ds_retO (do_lc (di_range1 (da_cons (dn_meth ioRooms c_call0 dn_var da_nil) da_nil)) dg_name dt_yes (dn_tup (da_cons (dn_own (do_lc (di_list (dn_own (do_meth ioOuts c_callO0 dn_var (da_cons dn_var da_nil)))) dg_name dt_yes (dn_meth ioEnd c_call0 dn_var (da_cons dn_var da_nil)) (by decide))) (da_cons (dn_own (do_lc (di_list (dn_own (do_meth ioIns c_callO0 dn_var (da_cons dn_var da_nil)))) dg_name dt_yes (dn_meth ioBegin c_call0 dn_var (da_cons dn_var da_nil)) (by decide))) da_nil))) (by decide)))) (fun ds Q Ex hyp => ?_)⟩
  obtain ⟨n, ps, rfl, hG, hn, hl, q⟩ := hyp
  have li : ∀ (l : List Nat) (r : Nat), (idxs l r 0).length ≤ l.length := fun l r => idxs_len r l 0
  refine ⟨_, rfl, _, rfl, n, ps, rfl, _, rfl, ⟨by omega, by omega⟩, by rw [List.length_map, List.length_range]; omega, lc_map (fun x => match x with | .int i => nbD ps i.toNat | _ => .non) (fun i x hx => ?_) ?_⟩
  · obtain ⟨a, ha, rfl⟩ := map_at hx
    have hi : a < n := by
      have m := List.mem_of_getElem? ha
      rw [List.mem_range] at m
      omega
    have ho := li (ps.map fun p : Nat × Nat => p.1) a
    have hi2 := li (ps.map fun p : Nat × Nat => p.2) a
    rw [List.length_map] at ho hi2
    have lt : ∀ (l : List Nat) (b : Nat), b ∈ idxs l a 0 → b < l.length := fun l b h => by
      rw [idxs_filt] at h
      obtain ⟨x, hx, e⟩ := List.mem_map.mp h
      have := List.mem_range.mp (List.mem_filter.mp hx).1
      omega
    refine ⟨_, rfl, _, rfl, _, rfl, n, ps, a, rfl, hi, _, rfl, by rw [List.length_map]; omega, lc_map (fun x => match x with | .int i => natD (ps.getD i.toNat (0, 0)).2 | _ => .non) (fun j y hy => ?_) ?_⟩
    · obtain ⟨b, hb, rfl⟩ := map_at hy
      have lb := lt _ b (List.mem_of_getElem? hb)
      rw [List.length_map] at lb
      exact ⟨_, rfl, _, rfl, _, rfl, n, ps, b, rfl, lb, rfl⟩
    refine ⟨_, rfl, _, rfl, _, rfl, n, ps, a, rfl, hi, _, rfl, by rw [List.length_map]; omega, lc_map (fun x => match x with | .int i => natD (ps.getD i.toNat (0, 0)).1 | _ => .non) (fun j y hy => ?_) ?_⟩
    · obtain ⟨b, hb, rfl⟩ := map_at hy
      have lb := lt _ b (List.mem_of_getElem? hb)
      rw [List.length_map] at lb
      exact ⟨_, rfl, _, rfl, _, rfl, n, ps, b, rfl, lb, rfl⟩
    rw [List.map_map, List.map_map]
    show D.tup _ = nbD ps a
    unfold nbD oE iE
    rw [List.map_map, List.map_map]
    rfl
  · rw [List.map_map]
    exact q
abbrev sLooksOf : Stmt := topS 21
abbrev nLooksOf : List Str := ["near", "colours", "room", "behind", "ahead", "end", "begin"]
theorem scLooksOf : FnScope nLooksOf ["near", "colours"] (defScope sLooksOf) := ⟨rfl, rfl, rfl, by decide +kernel, rfl, by decide +kernel, by decide +kernel⟩
theorem cal_LooksOf {f : Addr} {fd : FuncData} (F : Fun K "looks_of" "looks_of" sLooksOf f fd) (b : Binds K fd ["near", "colours"] []) (m : mg "looks_of" = some (.ref f)) (k : PySem.W.keepIn K (.ref f) = true) (mEnum : mg "enumerate" = none) (mSorted : mg "sorted" = none) (mTuple : mg "tuple" = none) :
    Cal P w K mg base CX0 1 "looks_of" ["near", "colours"] (spO Ω mfLooksOf) := by
  refine ⟨f, fd, F.ok scLooksOf (fun vs H Q E h => spO_len h) (fun cdv A outer s H vs Q E hr h => ?_), b, m, k⟩
  refine ⟨_, (pss_one (ps_ret (pe_lc (own := [("room", 2), ("behind", 3), ("ahead", 4)]) (g := (gTup K 2 (gCons (gName 2) (gCons (gTup K 2 (gCons (gName 3) (gCons (gName 4) gNil))) gNil)))) (tt := tYes) rfl scLooksOf.nd (pi_enum (by rfl) mEnum (pa_cons (pv 0) pa_nil)) (blkOk_by (own := [("room", 2), ("behind", 3), ("ahead", 4)]) (N := nLooksOf) (sc := defScope sLooksOf) (by decide +kernel)) (fun _ _ _ _ _ => (pg_tup rfl (pgs_cons (pg_name (i := 2) scLooksOf.nd rfl (Or.inl rfl)) (pgs_cons (pg_tup rfl (pgs_cons (pg_name (i := 3) scLooksOf.nd rfl (Or.inl rfl)) (pgs_cons (pg_name (i := 4) scLooksOf.nd rfl (Or.inl rfl)) pgs_nil))) pgs_nil)))) (fun _ _ _ _ _ => pts_nil) (fun _ _ _ _ _ => (pe_tup (pa_cons (pe_ix (ix_listK (K := K) rfl) (pv 1) (pv 2) (fun _ _ => rfl)) (pa_cons (pe_callTy (call_tupleFK (K := K) rfl) (by rfl) mTuple boot_tuple' (pa_cons (pe_callB (cr_sortedIK (K := K) rfl) (by rfl) mSorted (by decide +kernel) (pa_cons (pe_lc (own := [("end", 5)]) (g := (gName 5)) (tt := tYes) rfl scLooksOf.nd (pi_listK (K := K) rfl (pv 3)) (blkOk_by (own := [("end", 5)]) (N := nLooksOf) (by rfl)) (fun _ _ _ _ _ => (pg_name (i := 5) scLooksOf.nd rfl (Or.inl rfl))) (fun _ _ _ _ _ => pts_nil) (fun _ _ _ _ _ => (pe_ix (ix_listK (K := K) rfl) (pv 1) (pv 5) (fun _ _ => rfl)))) pa_nil)) pa_nil)) (pa_cons (pe_callTy (call_tupleFK (K := K) rfl) (by rfl) mTuple boot_tuple' (pa_cons (pe_callB (cr_sortedIK (K := K) rfl) (by rfl) mSorted (by decide +kernel) (pa_cons (pe_lc (own := [("begin", 6)]) (g := (gName 6)) (tt := tYes) rfl scLooksOf.nd (pi_listK (K := K) rfl (pv 4)) (blkOk_by (own := [("begin", 6)]) (N := nLooksOf) (by rfl)) (fun _ _ _ _ _ => (pg_name (i := 6) scLooksOf.nd rfl (Or.inl rfl))) (fun _ _ _ _ _ => pts_nil) (fun _ _ _ _ _ => (pe_ix (ix_listK (K := K) rfl) (pv 1) (pv 6) (fun _ _ => rfl)))) pa_nil)) pa_nil)) pa_nil)))))))),
    run_pureO h 5 rfl (fun A => (ds_retO (do_lc (di_enum (da_cons dn_var da_nil)) (dg_tup (dgs_cons dg_name (dgs_cons (dg_tup (dgs_cons dg_name (dgs_cons dg_name dgs_nil))) dgs_nil))) dt_yes (dn_tup (da_cons (dn_op op_ixL dn_var dn_var) (da_cons (dn_callB c_tupF (da_cons (dn_own (do_callB c_sortI (da_cons (dn_own (do_lc (di_list dn_var) dg_name dt_yes (dn_op op_ixL dn_var dn_var) (by decide))) da_nil))) da_nil)) (da_cons (dn_callB c_tupF (da_cons (dn_own (do_callB c_sortI (da_cons (dn_own (do_lc (di_list dn_var) dg_name dt_yes (dn_op op_ixL dn_var dn_var) (by decide))) da_nil))) da_nil)) da_nil)))) (by decide)))) (fun ds Q Ex hyp => ?_)⟩
  obtain ⟨n, ps, cs, rfl, hG, hn, hl, hc, q⟩ := hyp
  have li : ∀ (l : List Nat) (r : Nat), (idxs l r 0).length ≤ l.length := fun l r => idxs_len r l 0
  have lt : ∀ (l : List Nat) (a b : Nat), b ∈ idxs l a 0 → b < l.length := fun l a b h => by
    rw [idxs_filt] at h
    obtain ⟨x, hx, e⟩ := List.mem_map.mp h
    have := List.mem_range.mp (List.mem_filter.mp hx).1
    omega
  have oL : ∀ r, (oE ps r).length ≤ 400 ∧ ∀ y ∈ oE ps r, y < n := fun r => by
    refine ⟨?_, fun y hy => ?_⟩
    · unfold oE
      have := li (ps.map fun p : Nat × Nat => p.1) r
      rw [List.length_map] at this ⊢
      omega
    · obtain ⟨b, hb, rfl⟩ := List.mem_map.mp hy
      have lb := lt _ _ b hb
      rw [List.length_map] at lb
      rw [List.getD_eq_getElem?_getD, List.getElem?_eq_getElem lb]
      exact (hG.2.1 _ (List.getElem_mem lb)).2
  have iL : ∀ r, (iE ps r).length ≤ 400 ∧ ∀ y ∈ iE ps r, y < n := fun r => by
    refine ⟨?_, fun y hy => ?_⟩
    · unfold iE
      have := li (ps.map fun p : Nat × Nat => p.2) r
      rw [List.length_map] at this ⊢
      omega
    · obtain ⟨b, hb, rfl⟩ := List.mem_map.mp hy
      have lb := lt _ _ b hb
      rw [List.length_map] at lb
      rw [List.getD_eq_getElem?_getD, List.getElem?_eq_getElem lb]
      exact (hG.2.1 _ (List.getElem_mem lb)).1
  refine ⟨_, rfl, _, _, rfl, rfl, by rw [enumD_len, List.length_map, List.length_range]; omega, lc_map (fun x => match x with | .tup (.int i :: _) => lookD ps cs i.toNat | _ => .non) (fun j y hy => ?_) ?_⟩
  · obtain ⟨y', hy', rfl⟩ := enum_at hy
    obtain ⟨a, ha, rfl⟩ := map_at hy'
    have lj := (List.getElem?_eq_some_iff.mp ha).1
    rw [List.length_range] at lj
    rw [List.getElem?_range lj] at ha
    obtain rfl := Option.some.inj ha
    refine ⟨_, rfl, rfl, _, _, rfl, _, _, rfl, ⟨_, rfl, rfl, _, _, rfl, _, _, rfl, rfl, ?_⟩⟩
    refine ⟨rfl, ?_⟩
    refine ⟨_, rfl, _, rfl, _, _, _, rfl, rfl, at_nat (mapD_atL (by omega)), ?_⟩
    refine ⟨_, rfl, _, rfl, by rw [List.length_map]; have := (oL j).1; omega, lc_map (fun x => match x with | .int i => natD (cs.getD i.toNat 0) | _ => .non) (fun t z hz => ?_) ?_⟩
    · obtain ⟨b, hb, rfl⟩ := map_at hz
      have lb := (oL j).2 b (List.mem_of_getElem? hb)
      exact ⟨_, rfl, _, rfl, _, _, _, rfl, rfl, at_nat (mapD_atL (by omega)), rfl⟩
    refine ⟨(oE ps j).map (fun e => ((cs.getD e 0 : Nat) : Int)), by rw [List.map_map, List.map_map]; rfl, ?_⟩
    refine ⟨_, rfl, ?_⟩
    refine ⟨_, rfl, _, rfl, by rw [List.length_map]; have := (iL j).1; omega, lc_map (fun x => match x with | .int i => natD (cs.getD i.toNat 0) | _ => .non) (fun t z hz => ?_) ?_⟩
    · obtain ⟨b, hb, rfl⟩ := map_at hz
      have lb := (iL j).2 b (List.mem_of_getElem? hb)
      exact ⟨_, rfl, _, rfl, _, _, _, rfl, rfl, at_nat (mapD_atL (by omega)), rfl⟩
    refine ⟨(iE ps j).map (fun e => ((cs.getD e 0 : Nat) : Int)), by rw [List.map_map, List.map_map]; rfl, ?_⟩
    exact ⟨_, rfl, rfl⟩
  · show Q _
    have e : (enumD (List.map (nbD ps) (List.range n))).map (fun x => match x with | .tup (.int i :: _) => lookD ps cs i.toNat | _ => .non) = (List.range n).map (lookD ps cs) := by
      unfold enumD
      rw [List.map_map, List.length_map, List.length_range]
      rfl
    rw [e]
    exact q
abbrev sWithColour : Stmt := topS 23
abbrev nWithColour : List Str := ["colours", "room", "colour"]
theorem scWithColour : FnScope nWithColour ["colours", "room", "colour"] (defScope sWithColour) := ⟨rfl, rfl, rfl, by decide +kernel, rfl, by decide +kernel, by decide +kernel⟩
theorem cal_WithColour {f : Addr} {fd : FuncData} (F : Fun K "with_colour" "with_colour" sWithColour f fd) (b : Binds K fd ["colours", "room", "colour"] []) (m : mg "with_colour" = some (.ref f)) (k : PySem.W.keepIn K (.ref f) = true)  :
    Cal P w K mg base CX0 1 "with_colour" ["colours", "room", "colour"] (spO Ω mfWithColour) := by
  refine ⟨f, fd, F.ok scWithColour (fun vs H Q E h => spO_len h) (fun cdv A outer s H vs Q E hr h => ?_), b, m, k⟩
  refine ⟨_, (pss_one (ps_ret (pe_op op_cat (pe_op op_cat (pe_slice sl_list (pv 0) po_none (po_some (pv 1))) (pe_lst (pa_cons (pv 2) pa_nil))) (pe_slice sl_list (pv 0) (po_some (pe_op op_add (pv 1) pe_int)) po_none)))),
    run_pureO h 0 rfl (fun A => (ds_retO (do_op op_catO (dn_own (do_op op_catO (dn_own (do_slL dn_var dp_none (dp_some dn_var))) (dn_own (do_lst (da_cons dn_var da_nil))))) (dn_own (do_slL dn_var (dp_some (dn_op op_i dn_var dn_int)) dp_none))))) (fun ds Q Ex hyp => ?_)⟩
  obtain ⟨cs, r, c, rfl, hr1, hl, q⟩ := hyp
  refine ⟨_, rfl, _, rfl, _, rfl, _, rfl, _, rfl, _, _, rfl, rfl, ?_, ?_⟩
  · rw [cut_take, List.length_take, List.length_map]
    show min r cs.length + 1 ≤ 1000000
    omega
  refine ⟨_, rfl, _, rfl, _, rfl, _, rfl, _, _, rfl, rfl, ?_, ?_⟩
  · rw [cut_take, cut_from, List.length_append, List.length_take, List.length_drop, List.length_map]
    show min r cs.length + 1 + (cs.length - (r + 1)) ≤ 1000000
    omega
  · show Q _
    rw [cut_take, cut_from, set_cut hr1]
    exact q
abbrev sFurther : Stmt := topS 25
abbrev nFurther : List Str := ["names", "ones", "others", "room", "fresh", "choices", "name"]
theorem scFurther : FnScope nFurther ["names", "ones", "others"] (defScope sFurther) := ⟨rfl, rfl, rfl, by decide +kernel, rfl, by decide +kernel, by decide +kernel⟩
theorem cal_Further {f : Addr} {fd : FuncData} (F : Fun K "further" "further" sFurther f fd) (b : Binds K fd ["names", "ones", "others"] []) (m : mg "further" = some (.ref f)) (k : PySem.W.keepIn K (.ref f) = true) (cWithColour : Cal P w K mg base CX0 1 "with_colour" ["colours", "room", "colour"] (spO Ω mfWithColour)) (mLen : mg "len" = none) (mRange : mg "range" = none) :
    Cal P w K mg base CX0 2 "further" ["names", "ones", "others"] (spO Ω mfFurther) := by
  refine ⟨f, fd, F.ok scFurther (fun vs H Q E h => spO_len h) (fun cdv A outer s H vs Q E hr h => ?_), b, m, k⟩
  obtain ⟨fWithColour, fdWithColour, GWithColour, bWithColour, mWithColour, kWithColour⟩ := cWithColour
  have hrWithColour : Room 1 _ := hr.mono (by decide)
  refine ⟨_, (pss_cons (ps_set (i := 3) scFurther.nd rfl (Or.inr rfl) (pe_callB call_len_seq (by rfl) mLen PySem.boot_len (pa_cons (pv 0) pa_nil)))
 (pss_cons (ps_set (i := 4) scFurther.nd rfl (Or.inr rfl) (pe_callB call_len_seq (by rfl) mLen PySem.boot_len (pa_cons (pv 1) pa_nil)))
 (pss_cons (ps_setLc (i := 5) (own := [("name", 6)]) (g := (gName 6)) rfl scFurther.nd rfl rfl (sw_true rfl rfl rfl (by decide +kernel)) (pi_range1 (by rfl) mRange (pa_cons (pv 4) pa_nil)) (blkOk_by (own := [("name", 6)]) (N := nFurther) (sc := defScope sFurther) (by decide +kernel)) (fun _ _ _ _ _ => (pg_name (i := 6) scFurther.nd rfl (Or.inl rfl))) (fun _ _ _ _ _ => (pts_one (pt_cmpR op_eq (pe_ix (ix_listK (K := K) rfl) (pv 2) (pv 6) (fun _ _ => rfl)) (pe_ix (ix_listK (K := K) rfl) (pv 1) (pv 3) (fun _ _ => rfl)) (nomark _)))) (fun _ _ _ _ _ => (pv 6)))
 (pss_one (ps_ret (pe_lc (own := [("name", 6)]) (g := (gName 6)) (tt := tYes) rfl scFurther.nd (pi_list (KN.pe_rev (K := K) rfl (pv 5) (pe_un un_neg pe_int))) (blkOk_by (own := [("name", 6)]) (N := nFurther) (sc := defScope sFurther) (by decide +kernel)) (fun _ _ _ _ _ => (pg_name (i := 6) scFurther.nd rfl (Or.inl rfl))) (fun _ _ _ _ _ => pts_nil) (fun _ _ _ _ _ => (pe_tup (pa_cons (pe_op (op_catAK (K := K) rfl) (pv 0) (pe_tup (pa_cons (pv 6) pa_nil))) (pa_cons (pe_call GWithColour hrWithColour rfl mWithColour kWithColour bWithColour .nil pass0 (pa_cons (pv 1) (pa_cons (pv 3) (pa_cons (pv 4) pa_nil)))) (pa_cons (pe_call GWithColour hrWithColour rfl mWithColour kWithColour bWithColour .nil pass0 (pa_cons (pv 2) (pa_cons (pv 6) (pa_cons (pv 4) pa_nil)))) pa_nil))))))))))),
    run_pureO h 4 rfl (fun A => (ds_seq (ds_set (dn_callB c_len (da_cons dn_var da_nil)))
 (ds_seq (ds_set (dn_callB c_len (da_cons dn_var da_nil)))
 (ds_seq (ds_set (dn_own (do_lc (di_range1 (da_cons dn_var da_nil)) dg_name (dt_test (dn_op op_eqS (dn_op op_ixL dn_var dn_var) (dn_op op_ixL dn_var dn_var))) dn_var (by decide))))
 (ds_retO (do_lc (di_list (dn_own (do_rev dn_var (dn_neg dn_int)))) dg_name dt_yes (dn_tup (da_cons (dn_op op_catAd dn_var (dn_tup (da_cons dn_var da_nil))) (da_cons (dn_own (do_call0 (da_cons dn_var (da_cons dn_var (da_cons dn_var da_nil))))) (da_cons (dn_own (do_call0 (da_cons dn_var (da_cons dn_var (da_cons dn_var da_nil))))) da_nil)))) (by decide))))))) (fun ds Q Ex hyp => ?_)⟩
  obtain ⟨d, ns, ones, others, rfl, hd, h1, h2, h3, q⟩ := hyp
  dsimp only [gdName]
  refine MS.cut (fun env => env = [.d d, .d (.lst (ones.map natD)), .d (.lst (others.map natD)), .d (natD ns.length), .no, .no, .no]) ?_ ?_
  · refine ⟨_, rfl, _, ns.map natD, rfl, tup_seq hd, ?_⟩
    rw [List.length_map]
    rfl
  rintro env rfl
  refine MS.cut (fun env => env = [.d d, .d (.lst (ones.map natD)), .d (.lst (others.map natD)), .d (natD ns.length), .d (natD ones.length), .no, .no]) ?_ ?_
  · refine ⟨_, rfl, _, ones.map natD, rfl, rfl, ?_⟩
    rw [List.length_map]
    rfl
  rintro env rfl
  refine MS.cut (fun env => env = [.d d, .d (.lst (ones.map natD)), .d (.lst (others.map natD)), .d (natD ns.length), .d (natD ones.length), .d (.lst ((chL ns ones others).map natD)), .no]) ?_ ?_
  · refine ⟨_, rfl, _, rfl, ⟨by omega, by omega⟩, by rw [List.length_map, List.length_range]; omega, lc_filter (fun x => match x with | .int i => decide (others.getD i.toNat 0 = ones.getD ns.length 0) | _ => false) (fun x => x) (fun j y hy => ?_) ?_⟩
    · obtain ⟨a, ha, rfl⟩ := map_at hy
      have hi : a < ones.length := by
        have m := List.mem_of_getElem? ha
        rw [List.mem_range] at m
        omega
      refine ⟨_, rfl, _, rfl, _, _, _, rfl, rfl, at_nat (mapD_atL (by omega)), _, rfl, _, rfl, _, _, _, rfl, rfl, at_nat (mapD_atL h1), ?_⟩
      refine ⟨_, _, rfl, rfl, rfl, _, rfl, ?_, fun _ => ⟨_, rfl, rfl⟩⟩
      show decide (V.int ((others.getD a 0 : Nat) : Int) = V.int ((ones.getD ns.length 0 : Nat) : Int)) = decide (others.getD a 0 = ones.getD ns.length 0)
      exact decide_eq_decide.mpr ⟨fun e => by injection e with e; omega, fun e => by rw [e]⟩
    · show _ = _
      have e : ((List.range ((ones.length : Nat) : Int).toNat).map fun i => D.int ((i : Nat) : Int)).filter (fun x => match x with | .int i => decide (others.getD i.toNat 0 = ones.getD ns.length 0) | _ => false) = (chL ns ones others).map natD := by
        unfold chL
        rw [List.filter_map, Int.toNat_natCast]
        rfl
      rw [show (List.map (fun x : D => x) _) = _ from List.map_id _, e]
      rfl
  rintro env rfl
  have ln : (chL ns ones others).length ≤ 100 := by
    unfold chL
    refine Nat.le_trans (List.length_filter_le _ _) ?_
    rw [List.length_range]
    exact h3
  refine ⟨_, rfl, _, rfl, rfl, _, rfl, by rw [← List.map_reverse, List.length_map, List.length_reverse]; omega, lc_map (fun x => match x with | .int i => furD ns ones others i.toNat | _ => .non) (fun j y hy => ?_) ?_⟩
  · rw [← List.map_reverse] at hy
    obtain ⟨a, ha, rfl⟩ := map_at hy
    have ma : a < ones.length := by
      have m := List.mem_reverse.mp (List.mem_of_getElem? ha)
      exact List.mem_range.mp (List.mem_filter.mp m).1
    refine ⟨_, rfl, _, rfl, ns.map natD, [natD a], hd, rfl, by rw [List.length_map]; show ns.length + 1 ≤ _; omega, fun e => ?_, fun _ e => absurd e (by simp), fun _ => ?_⟩
    · refine ⟨_, rfl, _, rfl, _, rfl, ones, ns.length, ones.length, rfl, h1, by omega, ?_⟩
      refine ⟨_, rfl, _, rfl, _, rfl, others, a, ones.length, rfl, by omega, by omega, ?_⟩
      show D.tup _ = D.tup _
      rw [List.map_eq_nil_iff.mp e]
      rfl
    · refine fun _ => ⟨_, rfl, _, rfl, _, rfl, ones, ns.length, ones.length, rfl, h1, by omega, ?_⟩
      refine ⟨_, rfl, _, rfl, _, rfl, others, a, ones.length, rfl, by omega, by omega, ?_⟩
      show D.tup [D.tup (ns.map natD ++ [natD a]), _, _] = D.tup [D.tup ((ns ++ [a]).map natD), _, _]
      rw [List.map_append]
      rfl
  · show Q _
    rw [← List.map_reverse, List.map_map]
    exact q
end
end KD
set_option Elab.async false
set_option linter.all false
set_option maxRecDepth 100000
set_option maxHeartbeats 2000000
namespace KD
open PySem PySem.Spec PyProof.Rows L2 KW KC
def rowD (r : List Nat) : D := .tup (r.map natD)
def nlD (r : List Nat) : D := .lst (r.map natD)
def ordT (n : Nat) (row : List Nat) : List (List Nat) := ((List.range n).filter fun o => decide (o ∉ row)).map fun o => row ++ [o]
def ordS (n : Nat) : Nat → List (List Nat)
  | 0 => [[]]
  | k + 1 => (ordS n k).flatMap (ordT n)
theorem ordS_len (n : Nat) : ∀ k, (ordS n k).length ≤ n ^ k
  | 0 => Nat.le_refl _
  | k + 1 => by
    have z := flat_len (ordT n) n (fun a => by
      unfold ordT
      rw [List.length_map]
      have := List.length_filter_le (fun o => decide (o ∉ a)) (List.range n)
      rw [List.length_range] at this
      exact this) (ordS n k)
    have y := ordS_len n k
    show ((ordS n k).flatMap (ordT n)).length ≤ _
    rw [Nat.pow_succ]
    exact Nat.le_trans z (Nat.mul_le_mul_right n y)
theorem ordS_six {n k : Nat} (hn : n ≤ 6) (hk : k ≤ 6) : (ordS n k).length ≤ 46656 := by
  refine Nat.le_trans (ordS_len n k) (Nat.le_trans (Nat.pow_le_pow_left hn k) (Nat.le_trans (Nat.pow_le_pow_right (by decide) hk) (by decide)))
theorem ordS_mem {n : Nat} : ∀ {k : Nat} {r : List Nat}, r ∈ ordS n k ↔ r.length = k ∧ r.Nodup ∧ ∀ x ∈ r, x < n
  | 0, r => by
    constructor
    · intro h
      rw [List.mem_singleton.mp h]
      exact ⟨rfl, List.Pairwise.nil, fun x hx => by cases hx⟩
    · rintro ⟨h, _⟩
      rw [List.length_eq_zero_iff.mp h]
      exact List.mem_singleton.mpr rfl
  | k + 1, r => by
    constructor
    · intro h
      obtain ⟨q, hq, h⟩ := List.mem_flatMap.mp h
      obtain ⟨o, ho, rfl⟩ := List.mem_map.mp h
      obtain ⟨h1, h2⟩ := List.mem_filter.mp ho
      obtain ⟨a, b, c⟩ := ordS_mem.mp hq
      have h2 := of_decide_eq_true h2
      refine ⟨by rw [List.length_append, a]; rfl, ?_, fun x hx => ?_⟩
      · refine ((List.perm_append_singleton o q).nodup_iff).mpr (List.nodup_cons.mpr ⟨h2, b⟩)
      · rcases List.mem_append.mp hx with z | z
        · exact c x z
        · rw [List.mem_singleton.mp z]
          exact List.mem_range.mp h1
    · rintro ⟨a, b, c⟩
      obtain ⟨q, o, rfl⟩ : ∃ q o, r = q ++ [o] := by
        rcases List.eq_nil_or_concat r with z | ⟨q, o, z⟩
        · rw [z] at a
          cases a
        · exact ⟨q, o, by rw [z, List.concat_eq_append]⟩
      have nd := List.nodup_cons.mp (((List.perm_append_singleton o q).nodup_iff).mp b)
      refine List.mem_flatMap.mpr ⟨q, ordS_mem.mpr ⟨by rw [List.length_append] at a; exact Nat.succ.inj a, nd.2, fun x hx => c x (List.mem_append_left _ hx)⟩, List.mem_map.mpr ⟨o, List.mem_filter.mpr ⟨List.mem_range.mpr (c o (List.mem_append_right _ (List.mem_singleton.mpr rfl))), decide_eq_true nd.1⟩, rfl⟩⟩
theorem ord_perm {n : Nat} {r : List Nat} (h : r.Perm (List.range n)) : r ∈ ordS n n := ordS_mem.mpr ⟨by rw [h.length_eq, List.length_range], h.nodup_iff.mpr List.nodup_range, fun x hx => List.mem_range.mp (h.mem_iff.mp hx)⟩
open Classical in
/-- a naming leads from the one to the other -/
noncomputable def namB (ps qs : List (Nat × Nat)) (r : List Nat) : Bool := decide ((ps.map (namF r)).Perm qs)
open Classical in
/-- the namings of rooms that lead from the one to the other -/
noncomputable def namL (n : Nat) (ps : List (Nat × Nat)) (m : Nat) (qs : List (Nat × Nat)) : List (List Nat) := if n = m ∧ ps.length = qs.length then (ordS n n).filter (namB ps qs) else []
theorem namL_ne {n : Nat} {ps qs : List (Nat × Nat)} {r : List Nat} (h : r.Perm (List.range n)) (hp : (ps.map (namF r)).Perm qs) : namL n ps n qs ≠ [] := by
  unfold namL
  rw [if_pos ⟨rfl, by rw [← hp.length_eq, List.length_map]⟩]
  intro z
  have w : r ∈ (ordS n n).filter (namB ps qs) := List.mem_filter.mpr ⟨ord_perm h, decide_eq_true hp⟩
  rw [z] at w
  cases w
def mfLawOrders : MF where
  n := 1
  wp := fun ds Q _ => ∃ n : Nat, ds = [.int n] ∧ n ≤ 6 ∧ Q (.lst ((ordS n n).map rowD))
  mono := fun h _ ⟨n, a, b, q⟩ => ⟨n, a, b, h _ q⟩
  len := fun ⟨n, a, _⟩ => by rw [a]; rfl
theorem row_ints (r : List Nat) : r.map natD = (r.map fun i => ((i : Nat) : Int)).map D.int := by
  rw [List.map_map]
  rfl
section
variable {P : Program} {w : World} {K : PySem.W.Frag} {mg : Str → Option Value} {base : Heap} {Ω : Obs} {C : Addr}
abbrev sLawOrders : Stmt := topS 35
abbrev nLawOrders : List Str := ["_law_many", "_law_found", "_law_k", "_law_later", "_law_row", "_law_one"]
theorem scLawOrders : FnScope nLawOrders ["_law_many"] (defScope sLawOrders) := ⟨rfl, rfl, rfl, by decide +kernel, rfl, by decide +kernel, by decide +kernel⟩
theorem cal_LawOrders {f : Addr} {fd : FuncData} (F : Fun K "_law_orders" "_law_orders" sLawOrders f fd) (b : Binds K fd ["_law_many"] []) (m : mg "_law_orders" = some (.ref f)) (k : PySem.W.keepIn K (.ref f) = true) (mRange : mg "range" = none) :
    Cal P w K mg base CX0 1 "_law_orders" ["_law_many"] (spD Ω mfLawOrders) := by
  refine ⟨f, fd, F.ok scLawOrders (fun vs H Q E h => spD_len h) (fun cdv A outer s H vs Q E hr h => ?_), b, m, k⟩
  refine ⟨_, (pss_cons (ps_set (i := 1) scLawOrders.nd rfl (Or.inl rfl) (pe_lst (pa_cons (pe_tup pa_nil) pa_nil)))
 (pss_cons (ps_for PassesOwn.never rfl (pi_range1 (by rfl) mRange (pa_cons (pv 0) pa_nil)) (pg_name (i := 2) scLawOrders.nd rfl (Or.inl rfl))
 (pss_cons (ps_set (i := 3) scLawOrders.nd rfl (Or.inl rfl) (pe_lst pa_nil))
 (pss_cons (ps_for PassesOwn.never rfl (pi_list (pv 1)) (pg_name (i := 4) scLawOrders.nd rfl (Or.inr rfl))
 (pss_one (ps_set (i := 3) scLawOrders.nd rfl (Or.inl rfl) (pe_op op_cat (pv 3) (pe_lc (own := [("_law_one", 5)]) (g := (gName 5)) rfl scLawOrders.nd (pi_range1 (by rfl) mRange (pa_cons (pv 0) pa_nil)) (blkOk_by (own := [("_law_one", 5)]) (N := nLawOrders) (sc := defScope sLawOrders) (by decide +kernel)) (fun _ _ _ _ _ => (pg_name (i := 5) scLawOrders.nd rfl (Or.inl rfl))) (fun _ _ _ _ _ => (pts_one (pt_cmpR (op_notInK (K := K) rfl) (pv 5) (pv 4) (by rfl)))) (fun _ _ _ _ _ => (pe_op (op_catAK (K := K) rfl) (pv 4) (pe_tup (pa_cons (pv 5) pa_nil)))))))))
 (pss_one (ps_set (i := 1) scLawOrders.nd rfl (Or.inl rfl) (pv 3))))))
 (pss_one (ps_ret (pv 1))))),
    run_pure h 5 rfl (fun A => (ds_seq (ds_set (dn_own (do_lst (da_cons (dn_tup da_nil) da_nil))))
 (ds_seq (ds_for (di_range1 (da_cons dn_var da_nil)) dg_name
 (ds_seq (ds_set (dn_own (do_lst da_nil)))
 (ds_seq (ds_for (di_list dn_var) dg_name
 (ds_set (dn_own (do_op op_catO dn_var (dn_own (do_lc (di_range1 (da_cons dn_var da_nil)) dg_name (dt_test (dn_op op_in dn_var dn_var)) (dn_op op_catAd dn_var (dn_tup (da_cons dn_var da_nil))) (by decide)))))))
 (ds_set dn_var))))
 (ds_ret dn_var)))) (fun ds Q Ex hyp => ?_)⟩
  obtain ⟨n, rfl, hn, q⟩ := hyp
  refine MS.cut (fun env => ∃ v2 v3 v4 v5 : E1, env = [.d (.int n), .d (.lst ((ordS n 0).map rowD)), v2, v3, v4, v5]) ⟨_, _, _, _, rfl⟩ ?_
  rintro env ⟨v2, v3, v4, v5, rfl⟩
  refine ⟨_, rfl, _, rfl, ⟨by omega, by omega⟩, fun i env => ∃ v2 v3 v4 v5 : E1, env = [.d (.int n), .d (.lst ((ordS n i).map rowD)), v2, v3, v4, v5], ⟨_, _, _, _, rfl⟩, ?_, ?_⟩
  · rintro i x env hx ⟨v2, v3, v4, v5, rfl⟩
    obtain ⟨lt, rfl⟩ := rg_at hx
    dsimp only [gdName]
    refine MS.cut (fun env => env = [.d (.int n), .d (.lst ((ordS n i).map rowD)), .d (.int i), .d (.lst []), v4, v5]) ?_ ?_
    · exact rfl
    rintro env rfl
    refine MS.cut (fun env => ∃ v4 v5 : E1, env = [.d (.int n), .d (.lst ((ordS n i).map rowD)), .d (.int i), .d (.lst ((ordS n (i + 1)).map rowD)), v4, v5]) ?_ ?_
    · refine ⟨_, rfl, _, rfl, fun j env => ∃ v4 v5 : E1, env = [.d (.int n), .d (.lst ((ordS n i).map rowD)), .d (.int i), .d (.lst ((((ordS n i).take j).flatMap (ordT n)).map rowD)), v4, v5], ⟨_, _, rfl⟩, ?_, ?_⟩
      · rintro j y env hy ⟨v4, v5, rfl⟩
        obtain ⟨row, hrow, rfl⟩ := map_at hy
        obtain ⟨lr, _, br⟩ := ordS_mem.mp (List.mem_of_getElem? hrow)
        have nxt : ((ordS n i).take (j + 1)).flatMap (ordT n) = ((ordS n i).take j).flatMap (ordT n) ++ ordT n row := by
          rw [List.take_succ, hrow, List.flatMap_append]
          simp
        have bound : (((ordS n i).take (j + 1)).flatMap (ordT n)).length ≤ 46656 := by
          have z := ordS_six (k := i + 1) hn (by omega)
          refine Nat.le_trans ?_ z
          show _ ≤ ((ordS n i).flatMap (ordT n)).length
          conv => rhs; rw [← List.take_append_drop (j + 1) (ordS n i), List.flatMap_append, List.length_append]
          exact Nat.le_add_right _ _
        refine ⟨_, rfl, _, rfl, _, rfl, ⟨by omega, by omega⟩, by rw [List.length_map, List.length_range]; omega, lc_filter (fun x => match x with | .int o => decide (o.toNat ∉ row) | _ => false) (fun x => match x with | .int o => rowD (row ++ [o.toNat]) | _ => .non) (fun t z hz => ?_) ?_⟩
        · obtain ⟨lt2, rfl⟩ := rg_at hz
          refine ⟨_, rfl, _, rfl, row.map natD, _, (row.map fun i => ((i : Nat) : Int)).map V.int, rfl, rfl, by rw [row_ints, scls_ints], rfl, flat_ints _, _, rfl, ?_, fun _ => ?_⟩
          · show (!inV (V.int (t : Nat)) _) = decide (t ∉ row)
            rw [inV_ints]
            by_cases c : t ∈ row
            · rw [decide_eq_true (List.mem_map.mpr ⟨t, c, rfl⟩), decide_eq_false (fun z => z c)]
              rfl
            · rw [decide_eq_false (fun z => by
                obtain ⟨u, hu, e⟩ := List.mem_map.mp z
                exact c (by rw [show t = u by omega]; exact hu)), decide_eq_true c]
              rfl
          · refine ⟨_, rfl, _, rfl, row.map natD, [natD t], rfl, rfl, by rw [List.length_map, lr]; show i + 1 ≤ _; omega, fun e => ?_, fun _ e => absurd e (by simp), fun _ _ => ?_⟩
            · show D.tup [natD t] = rowD (row ++ [((t : Nat) : Int).toNat])
              rw [List.map_eq_nil_iff.mp e]
              rfl
            · show D.tup (row.map natD ++ [natD t]) = D.tup ((row ++ [t]).map natD)
              rw [List.map_append]
              rfl
        · have e1 : ((((List.range ((n : Nat) : Int).toNat).map fun i => D.int ((i : Nat) : Int)).filter fun x => match x with | .int o => decide (o.toNat ∉ row) | _ => false).map fun x => match x with | .int o => rowD (row ++ [o.toNat]) | _ => .non) = (ordT n row).map rowD := by
            unfold ordT
            rw [List.filter_map, List.map_map, List.map_map, Int.toNat_natCast]
            rfl
          rw [e1]
          refine ⟨_, _, rfl, rfl, ?_, ?_⟩
          · rw [← List.length_append, ← List.map_append, ← nxt, List.length_map]
            omega
          · refine ⟨.d (rowD row), v5, ?_⟩
            rw [nxt, List.map_append]
            rfl
      · rintro env ⟨v4, v5, rfl⟩
        rw [List.length_map, List.take_length]
        exact ⟨_, _, rfl⟩
    rintro env ⟨v4, v5, rfl⟩
    exact ⟨_, rfl, _, _, _, _, rfl⟩
  · rintro env ⟨v2, v3, v4, v5, rfl⟩
    rw [List.length_map, List.length_range, Int.toNat_natCast]
    exact ⟨_, rfl, q⟩
abbrev sLawNamings : Stmt := topS 36
abbrev nLawNamings : List Str := ["_law_w", "_law_v", "_law_found", "_law_rooms", "_law_begin", "_law_end"]
theorem scLawNamings : FnScope nLawNamings ["_law_w", "_law_v"] (defScope sLawNamings) := ⟨rfl, rfl, rfl, by decide +kernel, rfl, by decide +kernel, by decide +kernel⟩
end
end KD
set_option Elab.async false
set_option linter.all false
set_option maxRecDepth 100000
set_option maxHeartbeats 3200000
namespace KN
open PySem PySem.Spec PyProof.Rows L2 TS KW SrtO
section
variable {X : Cx}
def rSortN (K : PySem.W.Frag) (P : Program) (w : World) : List V → Hp → VK → Prop := fun vs H Q => ∃ (a : Addr) (L : List (Addr × List It)) (sh : List Bool), vs = [.ref a] ∧ (SqL K H a (L.map fun p => V.ref p.1) ∨ SqT K H a (L.map fun p => V.ref p.1)) ∧ (∀ p ∈ L, KD.KeyIs H (.ref p.1) (rowK p.2) ∧ p.2.map It.flat = sh) ∧ sh ≠ [] ∧
  ∀ (M : List (Addr × List It)) (p : Addr), M.Perm L → M.Pairwise (fun a b => lexI b.2 a.2 = false) → H p = none → Q (.ref p) (upd H p (.lst (M.map fun q => V.ref q.1)))
theorem cr_sortN {K : PySem.W.Frag} {P : Program} {w : World} (hK : X.K = K) (hP : X.prog = P) (hw : X.w = w) (hu : X.A.units + 64 < cLine) : CallR X (.builtin "sorted") (rSortN K P w) := by
  subst hK hP hw
  intro pins s σ H vs us Q I r h
  obtain ⟨a, L, sh, rfl, hs, hk, hsh, q⟩ := h
  rw [Vals.ref1 r]
  obtain ⟨its, rv, T, o, n, hT, ho, hc, hd, hz⟩ : ∃ (its : List Value), Vals (L.map fun p => V.ref p.1) its ∧ ∃ (T : String) (o : Obj) (n : Nat), (T = "list" ∨ T = "tuple") ∧ s.heap.get? a = some o ∧ o.cls = .type T ∧ o.data = .seq its.toArray n ∧ (L.map fun p => V.ref p.1).length ≤ sizeLine := by
    rcases hs with hs | hs
    · obtain ⟨its, rv, hl, hz⟩ := I.list hs
      obtain ⟨o, ho, hc, n, hd⟩ := hl.isList
      exact ⟨its, rv, "list", o, n, .inl rfl, ho, hc, hd, hz⟩
    · obtain ⟨its, rv, hl, hz⟩ := I.tuple hs
      obtain ⟨o, ho, hc, n, hd⟩ := hl
      exact ⟨its, rv, "tuple", o, n, .inr rfl, ho, hc, hd, hz⟩
  have hes : its = L.map fun p => Value.ref p.1 := by
    have z := refs_of_vals (ks := L.map fun p => (p.1, ([] : List Int))) (by rw [List.map_map]; exact rv)
    rw [List.map_map] at z
    exact z
  have one : ∀ p ∈ L, rowAtN L (.ref p.1) = p.2 := fun p hp => by
    unfold rowAtN
    cases e : L.find? fun q => Value.ref q.1 == Value.ref p.1 with
    | none =>
      rw [List.find?_eq_none] at e
      exact absurd (by simp) (e p hp)
    | some p' =>
      have m' := List.mem_of_find?_eq_some e
      have e1 := List.find?_some e
      have ea : p'.1 = p.1 := by simpa using e1
      have n1 := (isN_of I (hk p hp).1).is
      have n2 := (isN_of I (hk p' m').1).is
      rw [ea] at n2
      exact rowK_inj (NestedIs.inj _ _ _ n2 n1)
  have ht : ∀ v ∈ its, ∃ p ∈ L, v = .ref p.1 ∧ IsR X.prog X.w s.heap (rowAtN L v) v ∧ (rowAtN L v).map It.flat = sh := fun v hv => by
    rw [hes] at hv
    obtain ⟨p, mp, rfl⟩ := List.mem_map.mp hv
    refine ⟨p, mp, rfl, ?_, by rw [one p mp]; exact (hk p mp).2⟩
    rw [one p mp]
    exact isR_of I (hk p mp).1
  refine sort_seq (swo_lexI fun v => rowAtN L v) hT ho hc hd (by rw [← rv.length]; exact hz) (fun l2 h1 a2 ha kk => ?_) fun h2 d out h1 hb kp hd2 hn => ?_
  · refine rows_sortableO (s := { s with heap := h1 }) (sh := sh) (by simp only [Around.in1_units]; omega) (by omega) (fun v hm => ?_) hsh fun o e => ?_
    · obtain ⟨p, _, _, h3, h4⟩ := ht v hm
      exact ⟨h3.keeps fun b o e _ => (kk b o e).2, h4⟩
    · have z : some o = some (seqObj "list" its.toArray 0) := e.symm.trans ha
      cases z
      intro y
      exact absurd (Value.type.inj y) (by decide)
  · obtain ⟨c, hn⟩ := hn
    have mo : ∀ v ∈ out, ∃ p ∈ L, v = .ref p.1 := fun v hv => by
      obtain ⟨p, mp, e, _⟩ := ht v (hb.perm.mem_iff.mp hv)
      exact ⟨p, mp, e⟩
    have lo : out.length ≤ sizeLine := by
      rw [hb.perm.length_eq, ← rv.length]
      exact hz
    have ev : (out.map fun v => (adrAt v, rowAtN L v)).map (fun q => V.ref q.1) = out.map backV := by
      rw [List.map_map]
      refine List.map_congr_left fun v hv => ?_
      obtain ⟨p, _, rfl⟩ := mo v hv
      rfl
    have pT : (out.map fun v => (adrAt v, rowAtN L v)).Perm L := by
      have z := hb.perm.map fun v => (adrAt v, rowAtN L v)
      rw [hes, List.map_map] at z
      have e : L.map ((fun v => (adrAt v, rowAtN L v)) ∘ fun p => Value.ref p.1) = L := by
        conv => rhs; rw [← List.map_id L]
        refine List.map_congr_left fun p mp => ?_
        show (p.1, rowAtN L (.ref p.1)) = p
        rw [one p mp]
      rw [e] at z
      exact z
    refine ⟨.ref d, upd H d (.lst (out.map backV)), I.laid (t' := s.toks) kp hd2 ⟨by rw [List.length_map]; exact lo, out, c, vals_back (fun u hu => by obtain ⟨p, _, e⟩ := mo u hu; exact ⟨_, e⟩), hn⟩, rfl, ?_⟩
    rw [← ev]
    exact q _ d pT (List.pairwise_map.mpr h1) (I.hok.fresh hd2)
end
end KN
set_option Elab.async false
set_option linter.all false
set_option maxRecDepth 100000
set_option maxHeartbeats 1000000
namespace KD
open PySem PySem.Spec PyProof.Rows L2 KW
open KN (rowK lexI)
section
variable {Ω : Obs} {A : Am} {E : XK} {K : PySem.W.Frag} {P : Program} {w : World}
theorem perm_lift {α β : Type} {f : α → β} {a b : List β} (p : a.Perm b) : ∀ {l : List α}, b = l.map f → ∃ l' : List α, a = l'.map f ∧ l'.Perm l := by
  induction p with
  | nil =>
    intro l e
    cases l with
    | nil => exact ⟨[], rfl, .nil⟩
    | cons x l => cases e
  | cons x p ih =>
    intro l e
    cases l with
    | nil => cases e
    | cons y l =>
      rw [List.map_cons] at e
      injection e with e1 e2
      obtain ⟨l', h1, h2⟩ := ih e2
      exact ⟨y :: l', by rw [h1, e1, List.map_cons], h2.cons y⟩
  | swap x y t =>
    intro l e
    cases l with
    | nil => cases e
    | cons a l =>
      cases l with
      | nil => cases e
      | cons b l =>
        rw [List.map_cons, List.map_cons] at e
        injection e with e1 e2
        injection e2 with e2 e3
        exact ⟨b :: a :: l, by rw [e1, e2, e3]; rfl, .swap a b l⟩
  | trans p q i1 i2 =>
    intro l e
    obtain ⟨l1, h1, p1⟩ := i2 e
    obtain ⟨l2, h2, p2⟩ := i1 h1
    exact ⟨l2, h2, p2.trans p1⟩
def gSortN : List D → M (List D) := fun ds => ⟨fun _ Q _ => ∃ (x : D) (xs : List D) (rows : List (List KN.It)) (sh : List Bool), ds = [x] ∧ asSeq x = some xs ∧ Paired RowD xs rows ∧ (∀ r ∈ rows, r.map KN.It.flat = sh) ∧ sh ≠ [] ∧
  ∀ (zs : List D) (rs : List (List KN.It)), Paired RowD zs rs → zs.Perm xs → rs.Perm rows → rs.Pairwise (fun a b => lexI b a = false) → Q zs,
  fun h _ ⟨x, xs, rows, sh, a, b, c, d, e, q⟩ => ⟨x, xs, rows, sh, a, b, c, d, e, fun zs rs x y z u => h _ (q zs rs x y z u)⟩⟩
theorem reps_three {G : Hp} : ∀ {vs : List V} {xs : List D} {rows : List (List KN.It)}, Reps Ω G vs xs → Paired RowD xs rows → ∃ T : List ((Addr × List KN.It) × D), vs = T.map (fun p => V.ref p.1.1) ∧ xs = T.map (·.2) ∧ rows = T.map (·.1.2) ∧ ∀ p ∈ T, KeyIs G (.ref p.1.1) (rowK p.1.2) ∧ Rep Ω G (.ref p.1.1) p.2 ∧ RowD p.2 p.1.2
  | _, _, _, .nil, .nil => ⟨[], rfl, rfl, rfl, (fun p h => nomatch h)⟩
  | _, _, _, .cons r t, .cons h p => by
    obtain ⟨T, e1, e2, e3, e4⟩ := reps_three t p
    obtain ⟨a, rfl, ky⟩ := r.nkt h
    refine ⟨((a, _), _) :: T, by rw [e1]; rfl, by rw [List.map_cons, ← e2], by rw [List.map_cons, ← e3], fun p hp => ?_⟩
    rcases List.mem_cons.mp hp with rfl | hp
    · exact ⟨ky, r, h⟩
    · exact e4 p hp
theorem reps_of {G : Hp} : ∀ {T : List ((Addr × List KN.It) × D)}, (∀ p ∈ T, Rep Ω G (.ref p.1.1) p.2) → Reps Ω G (T.map fun p => V.ref p.1.1) (T.map (·.2))
  | [], _ => .nil
  | p :: T, h => .cons (h p List.mem_cons_self) (reps_of fun q m => h q (List.mem_cons_of_mem _ m))
theorem rows_of {T : List ((Addr × List KN.It) × D)} : (∀ p ∈ T, RowD p.2 p.1.2) → Paired RowD (T.map (·.2)) (T.map (·.1.2)) := by
  induction T with
  | nil => exact fun _ => .nil
  | cons p T ih => exact fun h => .cons (h p List.mem_cons_self) (ih fun q m => h q (List.mem_cons_of_mem _ m))
theorem c_sortN : CallO Ω E (KN.rSortN K P w) gSortN := fun A G H vs ds Q env Ex fr f r q => by
  obtain ⟨x, xs, rows, sh, rfl, hx, pr, hsh, ne, q⟩ := q
  obtain ⟨v, rfl, rv⟩ := r.one
  obtain ⟨a, us, rfl, ha, ru⟩ := rv.seqv (K := K) hx
  obtain ⟨T, e1, e2, e3, hT⟩ := reps_three ru pr
  subst e1 e2 e3
  refine ⟨a, T.map (·.1), sh, rfl, ?_, fun p hp => ?_, ne, fun M p pm so hp => ?_⟩
  · rw [List.map_map]
    exact seq_same fr.sub ha
  · obtain ⟨t, mt, rfl⟩ := List.mem_map.mp hp
    exact ⟨(hT t mt).1.mono fr.sub, hsh _ (List.mem_map.mpr ⟨t, mt, rfl⟩)⟩
  · obtain ⟨T', rfl, pT⟩ := perm_lift pm rfl
    have hT' : ∀ p ∈ T', KeyIs G (.ref p.1.1) (rowK p.1.2) ∧ Rep Ω G (.ref p.1.1) p.2 ∧ RowD p.2 p.1.2 := fun p hp => hT p (pT.mem_iff.mp hp)
    have z := q (T'.map (·.2)) (T'.map (·.1.2)) (rows_of fun p hp => (hT' p hp).2.2) (pT.map _) (pT.map _) (by
      rw [List.pairwise_map] at so ⊢
      exact so)
    rw [List.map_map]
    exact z _ _ _ _ (Tr.allocOwn fr hp) (.of (.refl fr) hp) upd_same (reps_of fun p hp => (hT' p hp).2.1) (fr.sub.free hp) (A.fr fr.inv hp)
end
end KD
set_option Elab.async false
set_option linter.all false
set_option maxRecDepth 100000
set_option maxHeartbeats 1000000
namespace KD
open PySem PySem.Spec PyProof.Rows L2 KW
section
variable {Ω : Obs} {A : Am} {E : XK} {K : PySem.W.Frag} {ta : TE} {m : M (List D)}
def MS.popL (i : Nat) (g : GD) : MS := ⟨fun e env Ex => ∃ xs y, get env i = .own (xs ++ [y]) ∧ g.wp y (KD.put env i (.own xs)) e.nx, fun h _ _ _ _ ⟨xs, y, e, q⟩ => ⟨xs, y, e, g.mono h q⟩⟩
theorem ds_popL {i : Nat} {g : TG} {gd : GD} {us : List Nat} (hg : DenG Ω A g gd us) : DenS Ω A E (tAsg (tBM0 K "list" rPop (tVar i)) g) (.popL i gd) := fun G σ env H e ed Ex k f l ⟨xs, y, hx, q⟩ => by
  obtain ⟨a, vs, hs, ha, r, gn, nw⟩ := k.own hx
  have lv : vs.length = xs.length + 1 := by rw [r.length, List.length_append]; rfl
  obtain ⟨v, hv, rv⟩ := r.at' (i := xs.length) (x := y) (by simp)
  have rd : Reps Ω G vs.dropLast xs := by
    have z := r.take xs.length
    rw [List.take_left] at z
    rw [List.dropLast_eq_take, lv, Nat.add_sub_cancel]
    exact z
  refine ⟨_, hs, .inl ⟨rfl, vs, SqL.of ha⟩, a, vs, v, rfl, rfl, ha, by rw [lv, Nat.add_sub_cancel]; exact hv, ?_⟩
  exact hg G _ _ _ v y _ (k.turn hx hs rd) rv (gd.mono (fun env' q σ' k' _ _ => l.nx G σ' env' _ (Same.refl _) k' q) q)
def MS.extO (i : Nat) (a : M (List D)) : MS := ⟨fun e env Ex => ∃ xs, get env i = .own xs ∧ a.wp env (fun ds => xs.length + ds.length ≤ 1000000 ∧ e.nx (KD.put env i (.own (xs ++ ds)))) Ex, fun h _ _ _ _ ⟨xs, e, q⟩ => ⟨xs, e, a.mono (fun _ ⟨b, q⟩ => ⟨b, h _ q⟩) q⟩⟩
theorem ds_extO {i : Nat} (h : DenO Ω A E ta m) : DenS Ω A E (tDrop (tBM K "list" rExtend (tVar i) (tCons ta tNil))) (.extO i m) := fun G σ env H e ed Ex k f l ⟨xs, hx, q⟩ => by
  obtain ⟨a, vs, hs, ha, r, g, nw⟩ := k.own hx
  refine ⟨_, hs, .inl ⟨rfl, vs, SqL.of ha⟩, h G σ env H _ Ex k f.e (m.mono (fun ds q G' b us H' t fr hb ru gb nb => ?_) q)⟩
  obtain ⟨h', g'⟩ := t.own a (.lst vs) trivial ha nw g
  refine ⟨a, b, vs, us, rfl, rfl, h', hb, by rw [sizeLine_eq, r.length, ru.length]; have := q.1; omega, ?_⟩
  exact l.nx G' σ _ _ t.sub ((k.tr t).turn hx hs (Reps.app_ (r.mono t.sub) ru)) q.2
end
end KD
set_option Elab.async false
set_option linter.all false
set_option maxRecDepth 100000
set_option maxHeartbeats 1000000
namespace KD
open PySem PySem.Spec PyProof.Rows L2 KW
namespace Rw
theorem nks_ints : ∀ l : List Int, nksD (l.map D.int) = some (l.map NestedKey.num)
  | [] => rfl
  | a :: l => by
    have ih := nks_ints l
    simp only [List.map_cons, nksD, nkD, ih, Option.bind_some, Option.map_some]
theorem pick_list {α : Type} {g : α → D} {S : List α} : ∀ {zs : List D}, (∀ z ∈ zs, z ∈ S.map g) → ∃ Z : List α, zs = Z.map g ∧ ∀ x ∈ Z, x ∈ S
  | [], _ => ⟨[], rfl, (fun _ h => nomatch h)⟩
  | z :: zs, h => by
    obtain ⟨Z, e, hZ⟩ := pick_list (zs := zs) fun y hy => h y (List.mem_cons_of_mem _ hy)
    obtain ⟨x, hx, rfl⟩ := List.mem_map.mp (h z List.mem_cons_self)
    exact ⟨x :: Z, by rw [e]; rfl, fun y hy => (List.mem_cons.mp hy).elim (fun q => by rw [q]; exact hx) (hZ y)⟩
theorem paired_rows {α : Type} {g : α → D} {h : α → List KN.It} (hg : ∀ x, RowD (g x) (h x)) : ∀ {Z : List α} {rs : List (List KN.It)}, Paired RowD (Z.map g) rs → rs = Z.map h
  | [], _, q => by cases q; rfl
  | x :: Z, _, q => by
    cases q with
    | cons q1 q2 =>
      have z := q1.symm.trans (hg x)
      rw [paired_rows hg q2, List.map_cons, KN.rowK_inj (Option.some.inj z)]
theorem rows_paired {α : Type} {g : α → D} {h : α → List KN.It} (hg : ∀ x, RowD (g x) (h x)) : ∀ Z : List α, Paired RowD (Z.map g) (Z.map h)
  | [] => .nil
  | x :: Z => .cons (hg x) (rows_paired hg Z)
theorem pick_rows {α : Type} {g : α → D} {h : α → List KN.It} (hg : ∀ x, RowD (g x) (h x)) {S : List α} (inj : ∀ x ∈ S, ∀ y ∈ S, h x = h y → x = y) {zs : List D} {rs : List (List KN.It)} (hp : Paired RowD zs rs) (hz : ∀ z ∈ zs, z ∈ S.map g) (nd : rs.Nodup) (all : ∀ r, r ∈ rs ↔ r ∈ S.map h) :
    ∃ Z : List α, zs = Z.map g ∧ rs = Z.map h ∧ Z.Nodup ∧ ∀ x, x ∈ Z ↔ x ∈ S := by
  obtain ⟨Z, rfl, sub⟩ := pick_list hz
  have er := paired_rows hg hp
  subst er
  refine ⟨Z, rfl, rfl, List.Pairwise.of_map (S := fun a b : List KN.It => a ≠ b) h (fun a b q e => q (by rw [e])) nd, fun x => ⟨sub x, fun hx => ?_⟩⟩
  obtain ⟨y, hy, e⟩ := List.mem_map.mp ((all (h x)).mpr (List.mem_map.mpr ⟨x, hx, rfl⟩))
  rw [← inj y (sub y hy) x hx e]
  exact hy
mutual
theorem eqv_nk : ∀ {x y : D} {k l : NK}, nkD x = some k → nkD y = some l → PyData.eqv (py x) (py y) = decide (k = l) := fun {x y k l} hx hy => by
  cases x <;> cases y <;> first
    | (simp only [nkD] at hx; cases hx; done)
    | (simp only [nkD] at hy; cases hy; done)
    | (simp only [nkD, Option.some.injEq, Option.map_eq_some_iff] at hx hy
       first
       | (subst hx hy; simp [py, PyData.eqv]; done)
       | (subst hx hy; simp only [py, PyData.eqv, NK.int.injEq]; exact beq_eq_decide _ _)
       | (subst hx hy; simp only [py, PyData.eqv]; rename_i i j; by_cases h : i = j <;> simp [h])
       | (obtain ⟨ks, e1, rfl⟩ := hx
          obtain ⟨ls, e2, rfl⟩ := hy
          simp only [py, PyData.eqv]
          rw [eqvs_nk e1 e2]
          simp; done)
       | (obtain ⟨ks, e1, rfl⟩ := hx; subst hy; simp [py, PyData.eqv]; done)
       | (obtain ⟨ls, e2, rfl⟩ := hy; subst hx; simp [py, PyData.eqv]; done))
theorem eqvs_nk : ∀ {xs ys : List D} {ks ls : List NK}, nksD xs = some ks → nksD ys = some ls → PyData.eqvAll (pys xs) (pys ys) = decide (ks = ls) := fun {xs ys ks ls} hx hy => by
  cases xs <;> cases ys <;> simp only [nksD, Option.some.injEq, Option.bind_eq_some_iff, Option.map_eq_some_iff] at hx hy
  · subst hx hy
    simp [pys, PyData.eqvAll]
  · obtain ⟨k, e1, ks, e2, rfl⟩ := hy
    subst hx
    simp [pys, PyData.eqvAll]
  · obtain ⟨k, e1, ks, e2, rfl⟩ := hx
    subst hy
    simp [pys, PyData.eqvAll]
  · obtain ⟨k, e1, ks, e2, rfl⟩ := hx
    obtain ⟨k', e1', ks', e2', rfl⟩ := hy
    simp only [pys, PyData.eqvAll]
    rw [eqv_nk e1 e1', eqvs_nk e2 e2']
    by_cases a : k = k' <;> by_cases b : ks = ks' <;> simp [a, b]
end
theorem nks_rows {α : Type} {g : α → D} {h : α → List KN.It} (hg : ∀ x, RowD (g x) (h x)) : ∀ l : List α, nksD (l.map g) = some (l.map fun x => KN.rowK (h x))
  | [] => rfl
  | x :: l => by
    simp only [List.map_cons, nksD, nkT_nk (hg x), nks_rows hg l, Option.bind_some, Option.map_some]
theorem eqd_val {f : Bool → Bool} {x y : D} {c : Bool} {env : Env} {Q : D → Prop} {Ex : Exc → Prop} (hx : pl 60 x) (hy : pl 60 y) (e : PyData.eqv (py x) (py y) = c) (q : Q (.bl (f c))) : (gEqD f x y).wp env Q Ex := by
  obtain ⟨a, b, d⟩ := pl_facts 60 x hx
  obtain ⟨a', b', d'⟩ := pl_facts 60 y hy
  refine ⟨a, a', KW.shaped_of b (by omega), KW.shaped_of b' (by omega), ?_⟩
  rw [e]
  exact q
/-- two lists of things told by rows, compared -/
theorem eqd_rows {α : Type} [DecidableEq α] {g : α → D} {h : α → List KN.It} (hg : ∀ x, RowD (g x) (h x)) (inj : ∀ x y, h x = h y → x = y) (hp : ∀ x, pl 59 (g x)) {f : Bool → Bool} {l m : List α} {env : Env} {Q : D → Prop} {Ex : Exc → Prop} (q : Q (.bl (f (decide (l = m))))) : (gEqD f (.lst (l.map g)) (.lst (m.map g))).wp env Q Ex := by
  refine eqd_val (c := decide (l = m)) (show pl 60 (.lst _) from pl_map fun x _ => hp x) (show pl 60 (.lst _) from pl_map fun x _ => hp x) ?_ q
  show PyData.eqv (.list (pys (l.map g))) (.list (pys (m.map g))) = _
  simp only [PyData.eqv]
  rw [eqvs_nk (nks_rows hg l) (nks_rows hg m)]
  refine decide_eq_decide.mpr ⟨fun e => ?_, fun e => by rw [e]⟩
  exact List.map_inj_right (fun x y e => inj x y (KN.rowK_inj e)) |>.mp e
theorem lexI_con : ∀ x y, KN.lexI x y = false → KN.lexI y x = false → x = y
  | [], [], _, _ => rfl
  | [], _ :: _, h, _ => by cases h
  | _ :: _, [], _, h => by cases h
  | a :: x, b :: y, h, k => by
    unfold KN.lexI at h k
    by_cases e : a = b
    · subst e
      rw [if_pos rfl] at h k
      rw [lexI_con x y h k]
    · rw [if_neg e] at h
      rw [if_neg (fun z => e z.symm)] at k
      exact absurd (KN.ltI_con a b h k) e
/-- sorted twice: the same just where the one is the other in another order -/
theorem sorted_rows {α : Type} {h : α → List KN.It} (inj : ∀ x y, h x = h y → x = y) {l m l' m' : List α} (pl : l'.Perm l) (pm : m'.Perm m) (sl : (l'.map h).Pairwise fun a b => KN.lexI b a = false) (sm : (m'.map h).Pairwise fun a b => KN.lexI b a = false) : l' = m' ↔ l.Perm m := by
  constructor
  · intro e
    exact pl.symm.trans (e ▸ pm)
  · intro p
    have z : l'.map h = m'.map h := List.Perm.eq_of_pairwise (fun a b _ _ x y => lexI_con a b y x) sl sm ((pl.trans (p.trans pm.symm)).map h)
    exact List.map_inj_right (fun x y e => inj x y e) |>.mp z
theorem valND_map {α : Type} {ky : α → NK} {g : α → D} {h : α} : ∀ {hs : List α}, (∀ a ∈ hs, ky a = ky h → a = h) → (h ∈ hs → valND (hs.map fun a => (ky a, g a)) (ky h) = some (g h)) ∧ (h ∉ hs → valND (hs.map fun a => (ky a, g a)) (ky h) = none)
  | [], _ => ⟨(fun z => nomatch z), fun _ => rfl⟩
  | a :: hs, inj => by
    have ih := valND_map (hs := hs) (g := g) fun b hb => inj b (List.mem_cons_of_mem _ hb)
    unfold valND at ih ⊢
    rw [List.map_cons, List.find?_cons]
    by_cases e : ky a = ky h
    · have z := inj a List.mem_cons_self e
      subst z
      rw [decide_eq_true rfl]
      exact ⟨fun _ => rfl, fun no => absurd List.mem_cons_self no⟩
    · rw [decide_eq_false e]
      exact ⟨fun m => ih.1 ((List.mem_cons.mp m).elim (fun z => absurd (by rw [z]) e) id), fun no => ih.2 fun z => no (List.mem_cons_of_mem _ z)⟩
theorem putND_map {α : Type} {ky : α → NK} {g : α → D} {h : α} {hs : List α} (inj : ∀ a ∈ hs, ky a = ky h → a = h) (no : h ∉ hs) (d : D) : putND (hs.map fun a => (ky a, g a)) (ky h) d = (hs.map fun a => (ky a, g a)) ++ [(ky h, d)] := by
  unfold putND
  rw [(valND_map inj).2 no]
  rfl
end Rw
end KD
set_option Elab.async false
set_option linter.all false
set_option maxRecDepth 100000
set_option maxHeartbeats 2000000
namespace KD
open PySem PySem.Spec PyProof.Rows L2 KW KC
abbrev Look := Nat × List Int × List Int
def lookL (ps : List (Nat × Nat)) (cs : List Nat) (r : Nat) : Look := (cs.getD r 0, clL cs (oE ps r), clL cs (iE ps r))
def lookV (a : Look) : D := .tup [natD a.1, .ftup (a.2.1.map .int), .ftup (a.2.2.map .int)]
def lookR (a : Look) : List KN.It := [.n a.1, .t a.2.1, .t a.2.2]
theorem lookR_inj {a b : Look} (e : lookR a = lookR b) : a = b := by
  simp only [lookR, List.cons.injEq, KN.It.n.injEq, KN.It.t.injEq, and_true] at e
  exact Prod.ext (by omega) (Prod.ext e.2.1 e.2.2)
theorem lookV_row (a : Look) : RowD (lookV a) (lookR a) := by
  show nkT (.tup [natD a.1, .ftup (a.2.1.map .int), .ftup (a.2.2.map .int)]) = _
  simp only [nkT, asTup, Option.bind_some, nksD, natD, nkD, Rw.nks_ints, Option.map_some]
  rfl
theorem lookR_flat (a : Look) : (lookR a).map KN.It.flat = [true, false, false] := rfl
theorem idxs_via (f g : Nat × Nat → Nat) (r : Nat) : ∀ (ps pre : List (Nat × Nat)), (idxs (ps.map f) r pre.length).map (fun a => g ((pre ++ ps).getD a (0, 0))) = (ps.filter fun p => decide (f p = r)).map g
  | [], _ => rfl
  | p :: ps, pre => by
    have ih := idxs_via f g r ps (pre ++ [p])
    rw [List.append_assoc, List.length_append] at ih
    have ih : (idxs (ps.map f) r (pre.length + 1)).map (fun a => g ((pre ++ p :: ps).getD a (0, 0))) = (ps.filter fun p => decide (f p = r)).map g := ih
    show (idxs (f p :: ps.map f) r pre.length).map _ = _
    unfold idxs
    by_cases c : f p = r
    · rw [if_pos c, List.map_cons, ih, List.filter_cons_of_pos (by simpa using c), List.map_cons]
      congr 1
      rw [List.getD_eq_getElem?_getD, List.getElem?_append_right (Nat.le_refl _), Nat.sub_self]
      rfl
    · rw [if_neg c, ih, List.filter_cons_of_neg (by simpa using c)]
theorem oE_filt (ps : List (Nat × Nat)) (r : Nat) : oE ps r = (ps.filter fun p => decide (p.1 = r)).map (·.2) := idxs_via (fun p => p.1) (fun p => p.2) r ps []
theorem iE_filt (ps : List (Nat × Nat)) (r : Nat) : iE ps r = (ps.filter fun p => decide (p.2 = r)).map (·.1) := idxs_via (fun p => p.2) (fun p => p.1) r ps []
def clI (cs es : List Nat) : List Int := es.map fun e => ((cs.getD e 0 : Nat) : Int)
theorem clL_iff {cs ds es fs : List Nat} : clL cs es = clL ds fs ↔ (clI cs es).Perm (clI ds fs) := isort_iff
theorem oE_lt {n : Nat} {ps : List (Nat × Nat)} (h : In2 n ps) {r y : Nat} (m : y ∈ oE ps r) : y < n := by
  rw [oE_filt] at m
  obtain ⟨p, hp, rfl⟩ := List.mem_map.mp m
  exact (h p (List.mem_filter.mp hp).1).2
theorem iE_lt {n : Nat} {ps : List (Nat × Nat)} (h : In2 n ps) {r y : Nat} (m : y ∈ iE ps r) : y < n := by
  rw [iE_filt] at m
  obtain ⟨p, hp, rfl⟩ := List.mem_map.mp m
  exact (h p (List.mem_filter.mp hp).1).1
theorem oE_count (ps : List (Nat × Nat)) (x y : Nat) : (oE ps x).count y = ps.count (x, y) := by
  rw [oE_filt, List.count_eq_countP, List.count_eq_countP, List.countP_map, List.countP_filter]
  refine List.countP_congr fun p _ => ?_
  obtain ⟨a, b⟩ := p
  simp only [Function.comp, Bool.and_eq_true, beq_iff_eq, decide_eq_true_eq, Prod.mk.injEq]
  exact and_comm
section
variable {n : Nat} {ps qs : List (Nat × Nat)} {r : List Nat} {cs ds : List Nat}
/-- r names the rooms of the one so that it becomes the other -/
structure IsoL (n : Nat) (ps qs : List (Nat × Nat)) (r : List Nat) : Prop where
  o : r ∈ ordS n n
  p : (ps.map (namF r)).Perm qs
/-- r keeps the colours -/
def Kp (n : Nat) (cs ds r : List Nat) : Prop := ∀ x, x < n → cs.getD x 0 = ds.getD (r.getD x 0) 0
theorem ord_lt (h : r ∈ ordS n n) {x : Nat} (hx : x < n) : r.getD x 0 < n := by
  obtain ⟨l, _, b⟩ := ordS_mem.mp h
  rw [List.getD_eq_getElem?_getD, List.getElem?_eq_getElem (by omega)]
  exact b _ (List.getElem_mem _)
theorem ord_inj (h : r ∈ ordS n n) {x y : Nat} (hx : x < n) (hy : y < n) (e : r.getD x 0 = r.getD y 0) : x = y := by
  obtain ⟨l, nd, _⟩ := ordS_mem.mp h
  rw [List.getD_eq_getElem?_getD, List.getD_eq_getElem?_getD, List.getElem?_eq_getElem (by omega), List.getElem?_eq_getElem (by omega)] at e
  refine (List.getElem?_inj (l := r) (i := x) (j := y) (by omega) nd).mp ?_
  rw [List.getElem?_eq_getElem (by omega), List.getElem?_eq_getElem (by omega)]
  exact congrArg some e
theorem ord_range (h : r ∈ ordS n n) : (List.range n).map (fun x => r.getD x 0) = r := by
  obtain ⟨l, _, _⟩ := ordS_mem.mp h
  refine List.ext_getElem? fun i => ?_
  rw [List.getElem?_map]
  by_cases c : i < n
  · rw [List.getElem?_range c, List.getElem?_eq_getElem (by omega)]
    show some (r.getD i 0) = _
    rw [List.getD_eq_getElem?_getD, List.getElem?_eq_getElem (by omega)]
    rfl
  · rw [List.getElem?_eq_none (by rw [List.length_range]; omega), List.getElem?_eq_none (by omega)]
    rfl
theorem ord_perm2 (h : r ∈ ordS n n) : r.Perm (List.range n) := by
  obtain ⟨l, nd, b⟩ := ordS_mem.mp h
  have sub : ∀ x ∈ r, x ∈ List.range n := fun x hx => List.mem_range.mpr (b x hx)
  refine (List.perm_ext_iff_of_nodup nd List.nodup_range).mpr fun a => ⟨sub a, fun ha => ?_⟩
  refine Classical.byContradiction fun no => ?_
  have z := (List.nodup_cons.mpr ⟨no, nd⟩).length_le_of_subset (l₂ := List.range n) fun x hx => (List.mem_cons.mp hx).elim (fun e => by rw [e]; exact ha) (sub x)
  rw [List.length_cons, List.length_range, l] at z
  omega
theorem ord_onto (h : r ∈ ordS n n) {y : Nat} (hy : y < n) : ∃ x, x < n ∧ r.getD x 0 = y := by
  have m := (ord_perm2 h).mem_iff.mpr (List.mem_range.mpr hy)
  rw [← ord_range h] at m
  obtain ⟨x, hx, e⟩ := List.mem_map.mp m
  exact ⟨x, List.mem_range.mp hx, e⟩
theorem iso_out (i : IsoL n ps qs r) (h : In2 n ps) {x : Nat} (hx : x < n) : (oE qs (r.getD x 0)).Perm ((oE ps x).map fun y => r.getD y 0) := by
  rw [oE_filt, oE_filt]
  refine ((i.p.symm.filter _).map _).trans ?_
  rw [List.filter_map, List.map_map, List.map_map]
  have e : ps.filter ((fun p => decide (p.1 = r.getD x 0)) ∘ namF r) = ps.filter fun p => decide (p.1 = x) := List.filter_congr fun p hp => by
    show decide (r.getD p.1 0 = r.getD x 0) = decide (p.1 = x)
    exact decide_eq_decide.mpr ⟨ord_inj i.o (h p hp).1 hx, fun e => by rw [e]⟩
  rw [e]
  exact .refl _
theorem iso_in (i : IsoL n ps qs r) (h : In2 n ps) {x : Nat} (hx : x < n) : (iE qs (r.getD x 0)).Perm ((iE ps x).map fun y => r.getD y 0) := by
  rw [iE_filt, iE_filt]
  refine ((i.p.symm.filter _).map _).trans ?_
  rw [List.filter_map, List.map_map, List.map_map]
  have e : ps.filter ((fun p => decide (p.2 = r.getD x 0)) ∘ namF r) = ps.filter fun p => decide (p.2 = x) := List.filter_congr fun p hp => by
    show decide (r.getD p.2 0 = r.getD x 0) = decide (p.2 = x)
    exact decide_eq_decide.mpr ⟨ord_inj i.o (h p hp).2 hx, fun e => by rw [e]⟩
  rw [e]
  exact .refl _
theorem clI_iso (k : Kp n cs ds r) {es fs : List Nat} (he : ∀ y ∈ es, y < n) (p : fs.Perm (es.map fun y => r.getD y 0)) : (clI cs es).Perm (clI ds fs) := by
  have z := (p.map fun e => ((ds.getD e 0 : Nat) : Int)).symm
  rw [List.map_map] at z
  have e : clI cs es = es.map ((fun e => ((ds.getD e 0 : Nat) : Int)) ∘ fun y => r.getD y 0) := List.map_congr_left fun y hy => by
    show ((cs.getD y 0 : Nat) : Int) = ((ds.getD (r.getD y 0) 0 : Nat) : Int)
    rw [k y (he y hy)]
  rw [e]
  exact z
theorem iso_look (i : IsoL n ps qs r) (h : In2 n ps) (k : Kp n cs ds r) {x : Nat} (hx : x < n) : lookL ps cs x = lookL qs ds (r.getD x 0) := by
  unfold lookL
  rw [k x hx, clL_iff.mpr (clI_iso k (fun y => oE_lt h) (iso_out i h hx)), clL_iff.mpr (clI_iso k (fun y => iE_lt h) (iso_in i h hx))]
def looks (n : Nat) (ps : List (Nat × Nat)) (cs : List Nat) : List Look := (List.range n).map (lookL ps cs)
theorem looks_mem {a : Look} : a ∈ looks n ps cs ↔ ∃ x, x < n ∧ lookL ps cs x = a := by
  unfold looks
  rw [List.mem_map]
  exact ⟨fun ⟨x, h, e⟩ => ⟨x, List.mem_range.mp h, e⟩, fun ⟨x, h, e⟩ => ⟨x, List.mem_range.mpr h, e⟩⟩
theorem iso_looks (i : IsoL n ps qs r) (h : In2 n ps) (k : Kp n cs ds r) : (looks n ps cs).Perm (looks n qs ds) := by
  have e : looks n ps cs = r.map (lookL qs ds) := by
    conv => rhs; rw [← ord_range i.o, List.map_map]
    exact List.map_congr_left fun x hx => iso_look i h k (List.mem_range.mp hx)
  rw [e]
  exact (ord_perm2 i.o).map _
/-- the colour of x is its alone -/
def Al (n : Nat) (cs : List Nat) (x : Nat) : Prop := ∀ z, z < n → cs.getD z 0 = cs.getD x 0 → z = x
structure Ref (n : Nat) (ps qs : List (Nat × Nat)) (c0 d0 c d : List Nat) : Prop where
  keep : ∀ r, IsoL n ps qs r → Kp n c0 d0 r → Kp n c d r
  uniq : ∀ x y, x < n → y < n → c0.getD x 0 = d0.getD y 0 → Al n c0 x → Al n d0 y → c.getD x 0 = d.getD y 0 ∧ Al n c x ∧ Al n d y
theorem Ref.refl {c d : List Nat} : Ref n ps qs c d c d := ⟨fun _ _ k => k, fun _ _ _ _ e a b => ⟨e, a, b⟩⟩
theorem Ref.trans {a b c d e f : List Nat} (x : Ref n ps qs a b c d) (y : Ref n ps qs c d e f) : Ref n ps qs a b e f :=
  ⟨fun r i k => y.keep r i (x.keep r i k), fun u v hu hv q a b => by
    obtain ⟨q2, a2, b2⟩ := x.uniq u v hu hv q a b
    exact y.uniq u v hu hv q2 a2 b2⟩
def recol (n : Nat) (ps : List (Nat × Nat)) (cs : List Nat) (g : Look → Nat) : List Nat := (looks n ps cs).map g
theorem recol_len {g : Look → Nat} : (recol n ps cs g).length = n := by
  unfold recol looks
  rw [List.length_map, List.length_map, List.length_range]
theorem recol_at {g : Look → Nat} {x : Nat} (hx : x < n) : (recol n ps cs g).getD x 0 = g (lookL ps cs x) := by
  unfold recol looks
  rw [List.getD_eq_getElem?_getD, List.map_map, List.getElem?_map, List.getElem?_range hx]
  rfl
theorem ref_step (h : In2 n ps) {g : Look → Nat} (pm : (looks n ps cs).Perm (looks n qs ds)) (inj : ∀ a ∈ looks n ps cs, ∀ b ∈ looks n ps cs, g a = g b → a = b) : Ref n ps qs cs ds (recol n ps cs g) (recol n qs ds g) := by
  refine ⟨fun r i k x hx => ?_, fun x y hx hy e a b => ?_⟩
  · rw [recol_at hx, recol_at (ord_lt i.o hx), iso_look i h k hx]
  · have m1 : lookL ps cs x ∈ looks n ps cs := looks_mem.mpr ⟨x, hx, rfl⟩
    obtain ⟨z, hz, ez⟩ := looks_mem.mp (pm.mem_iff.mp m1)
    have ezy : z = y := by
      refine b z hz ?_
      have := congrArg Prod.fst ez
      exact this.trans e
    subst ezy
    refine ⟨by rw [recol_at hx, recol_at hz, ez], fun u hu eu => ?_, fun u hu eu => ?_⟩
    · rw [recol_at hu, recol_at hx] at eu
      exact a u hu (congrArg Prod.fst (inj _ (looks_mem.mpr ⟨u, hu, rfl⟩) _ m1 eu))
    · rw [recol_at hu, recol_at hz] at eu
      exact b u hu (congrArg Prod.fst (inj _ (pm.mem_iff.mpr (looks_mem.mpr ⟨u, hu, rfl⟩)) _ (pm.mem_iff.mpr (looks_mem.mpr ⟨z, hz, rfl⟩)) eu))
theorem cl_count {es : List Nat} {y : Nat} (hy : y < n) (he : ∀ e ∈ es, e < n) (a : Al n cs y) : (clI cs es).count ((cs.getD y 0 : Nat) : Int) = es.count y := by
  unfold clI
  rw [List.count_eq_countP, List.countP_map, List.count_eq_countP]
  refine List.countP_congr fun e m => ?_
  simp only [Function.comp, beq_iff_eq]
  exact ⟨fun q => a e (he e m) (by omega), fun q => by rw [q]⟩
theorem leaf_iso (h : In2 n ps) (h2 : In2 n qs) (o : r ∈ ordS n n) (k : Kp n cs ds r) (a : ∀ x, x < n → Al n cs x) (pm : (looks n ps cs).Perm (looks n qs ds)) : IsoL n ps qs r := by
  refine ⟨o, List.perm_iff_count.mpr fun ⟨i, j⟩ => ?_⟩
  have a2 : ∀ x, x < n → Al n ds (r.getD x 0) := fun x hx z hz e => by
    obtain ⟨y, hy, rfl⟩ := ord_onto o hz
    rw [← k y hy, ← k x hx] at e
    rw [a x hx y hy e]
  by_cases c : i < n ∧ j < n
  · obtain ⟨x, hx, rfl⟩ := ord_onto o c.1
    obtain ⟨y, hy, rfl⟩ := ord_onto o c.2
    have lk : lookL ps cs x = lookL qs ds (r.getD x 0) := by
      obtain ⟨z, hz, ez⟩ := looks_mem.mp (pm.mem_iff.mp (looks_mem.mpr ⟨x, hx, rfl⟩))
      have e1 : ds.getD z 0 = cs.getD x 0 := congrArg Prod.fst ez
      rw [k x hx] at e1
      rw [← ez, a2 x hx z hz e1]
    have p2 : (clI cs (oE ps x)).Perm (clI ds (oE qs (r.getD x 0))) := clL_iff.mp (congrArg (fun a : Look => a.2.1) lk)
    have e0 : (ps.map (namF r)).count (r.getD x 0, r.getD y 0) = ps.count (x, y) := by
      rw [List.count_eq_countP, List.countP_map, List.count_eq_countP]
      refine List.countP_congr fun p hp => ?_
      obtain ⟨u, v⟩ := p
      simp only [Function.comp, namF, beq_iff_eq, Prod.mk.injEq]
      exact ⟨fun q => ⟨ord_inj o (h _ hp).1 hx q.1, ord_inj o (h _ hp).2 hy q.2⟩, fun q => by rw [q.1, q.2]; exact ⟨rfl, rfl⟩⟩
    rw [e0, ← oE_count, ← oE_count, ← cl_count hy (fun e m => oE_lt h m) (a y hy), p2.count_eq, k y hy, cl_count (ord_lt o hy) (fun e m => oE_lt h2 m) (a2 y hy)]
  · rw [List.count_eq_zero.mpr fun m => ?_, List.count_eq_zero.mpr fun m => c (h2 _ m)]
    obtain ⟨p, hp, e⟩ := List.mem_map.mp m
    have := h p hp
    injection e with e1 e2
    exact c ⟨by rw [← e1]; exact ord_lt o this.1, by rw [← e2]; exact ord_lt o this.2⟩
end
section
variable {n : Nat} {ps qs : List (Nat × Nat)}
/-- rows of names that go on, in their order -/
def extS (n : Nat) : Nat → List Nat → List (List Nat)
  | 0, ns => [ns]
  | k + 1, ns => (ordT n ns).flatMap (extS n k)
theorem ext_ord (n k : Nat) : ∀ j, (ordS n j).flatMap (extS n k) = ordS n (j + k) := by
  induction k with
  | zero =>
    intro j
    show (ordS n j).flatMap (fun ns => [ns]) = _
    simp
  | succ k ih =>
    intro j
    show (ordS n j).flatMap (fun ns => (ordT n ns).flatMap (extS n k)) = _
    rw [← List.flatMap_assoc]
    have z := ih (j + 1)
    show (ordS n (j + 1)).flatMap (extS n k) = _
    rw [z]
    congr 1
    omega
theorem ext_all (n : Nat) : extS n n [] = ordS n n := by
  have z := ext_ord n n 0
  rw [Nat.zero_add] at z
  rw [← z]
  show _ = [[]].flatMap (extS n n)
  simp
theorem ext_mem {k : Nat} : ∀ {ns r : List Nat}, r ∈ extS n k ns → ∃ s, r = ns ++ s := by
  induction k with
  | zero => exact fun {ns r} h => ⟨[], by rw [List.mem_singleton.mp h, List.append_nil]⟩
  | succ k ih =>
    intro ns r h
    obtain ⟨q, hq, h⟩ := List.mem_flatMap.mp h
    obtain ⟨o, _, rfl⟩ := List.mem_map.mp hq
    obtain ⟨s, rfl⟩ := ih h
    exact ⟨o :: s, by rw [List.append_assoc]; rfl⟩
theorem ext_ordS {k : Nat} : ∀ {ns r : List Nat}, ns ∈ ordS n ns.length → r ∈ extS n k ns → r ∈ ordS n (ns.length + k) := fun {ns r} h m => by
  rw [← ext_ord]
  exact List.mem_flatMap.mpr ⟨ns, h, m⟩
/-- the namings that begin so -/
noncomputable def gS (n : Nat) (ps qs : List (Nat × Nat)) (ns : List Nat) : List (List Nat) := (extS n (n - ns.length) ns).filter (namB ps qs)
theorem gS_nil : gS n ps qs [] = (ordS n n).filter (namB ps qs) := by
  unfold gS
  rw [List.length_nil, Nat.sub_zero, ext_all]
theorem gS_full {ns : List Nat} (h : ns.length = n) : gS n ps qs ns = [ns].filter (namB ps qs) := by
  unfold gS
  rw [h, Nat.sub_self]
  rfl
theorem gS_go {ns : List Nat} (h : ns.length < n) : gS n ps qs ns = ((List.range n).filter fun o => decide (o ∉ ns)).flatMap fun x => gS n ps qs (ns ++ [x]) := by
  unfold gS
  obtain ⟨k, hk⟩ : ∃ k, n - ns.length = k + 1 := ⟨n - ns.length - 1, by omega⟩
  rw [hk]
  show ((ordT n ns).flatMap (extS n k)).filter _ = _
  rw [List.filter_flatMap]
  unfold ordT
  rw [List.flatMap_map]
  refine congrArg (fun f => List.flatMap f _) (funext fun x => ?_)
  rw [List.length_append, show n - (ns.length + [x].length) = k by rw [List.length_singleton]; omega]
theorem gS_mem {ns r : List Nat} (hl : ns.length ≤ n) (h : ns ∈ ordS n ns.length) (m : r ∈ gS n ps qs ns) : IsoL n ps qs r ∧ ∃ s, r = ns ++ s := by
  obtain ⟨m1, m2⟩ := List.mem_filter.mp m
  refine ⟨⟨?_, of_decide_eq_true m2⟩, ext_mem m1⟩
  have z := ext_ordS h m1
  rwa [show ns.length + (n - ns.length) = n by omega] at z
theorem flat_sub {α β : Type} {p q : α → Bool} {f : α → List β} : ∀ {l : List α}, (∀ x ∈ l, p x = true → q x = true) → (∀ x ∈ l, q x = true → p x = false → f x = []) → (l.filter q).flatMap f = (l.filter p).flatMap f
  | [], _, _ => rfl
  | x :: l, h1, h2 => by
    have ih := flat_sub (l := l) (fun y hy => h1 y (List.mem_cons_of_mem _ hy)) fun y hy => h2 y (List.mem_cons_of_mem _ hy)
    cases hq : q x with
    | false =>
      cases hp : p x with
      | false => rw [List.filter_cons_of_neg (by simp [hq]), List.filter_cons_of_neg (by simp [hp]), ih]
      | true => rw [h1 x List.mem_cons_self hp] at hq; cases hq
    | true =>
      rw [List.filter_cons_of_pos hq, List.flatMap_cons]
      cases hp : p x with
      | false => rw [h2 x List.mem_cons_self hq hp, List.filter_cons_of_neg (by simp [hp]), ih, List.nil_append]
      | true => rw [List.filter_cons_of_pos hp, List.flatMap_cons, ih]
structure EnOk (n : Nat) (ps qs : List (Nat × Nat)) (ns o p : List Nat) : Prop where
  le : ns.length ≤ n
  lo : o.length = n
  lp : p.length = n
  keep : ∀ r, IsoL n ps qs r → (∃ s, r = ns ++ s) → Kp n o p r
  uniq : ∀ (i x : Nat), ns[i]? = some x → x < n ∧ o.getD i 0 = p.getD x 0 ∧ Al n o i ∧ Al n p x
theorem EnOk.ord {ns o p : List Nat} (e : EnOk n ps qs ns o p) : ns ∈ ordS n ns.length := by
  refine ordS_mem.mpr ⟨rfl, ?_, fun x hx => ?_⟩
  · refine List.pairwise_iff_getElem.mpr fun i j hi hj lt q => ?_
    obtain ⟨a1, a2, a3, a4⟩ := e.uniq i _ (List.getElem?_eq_getElem hi)
    obtain ⟨b1, b2, b3, b4⟩ := e.uniq j _ (List.getElem?_eq_getElem hj)
    have := b3 i (by have := e.le; omega) (by rw [a2, b2, q])
    omega
  · obtain ⟨i, hi⟩ := List.mem_iff_getElem?.mp hx
    exact (e.uniq i x hi).1
theorem EnOk.ref {ns o p c d : List Nat} (e : EnOk n ps qs ns o p) (R : Ref n ps qs o p c d) (lc : c.length = n) (ld : d.length = n) : EnOk n ps qs ns c d :=
  ⟨e.le, lc, ld, fun r i s => R.keep r i (e.keep r i s), fun i x h => by
    obtain ⟨a1, a2, a3, a4⟩ := e.uniq i x h
    have li : i < n := by have := (List.getElem?_eq_some_iff.mp h).1; have := e.le; omega
    obtain ⟨b1, b2, b3⟩ := R.uniq i x li a1 a2 a3 a4
    exact ⟨a1, b1, b2, b3⟩⟩
theorem getD_set {l : List Nat} {i j v : Nat} (hj : j < l.length) : (l.set i v).getD j 0 = if i = j then v else l.getD j 0 := by
  rw [List.getD_eq_getElem?_getD, List.getElem?_set, List.getD_eq_getElem?_getD]
  by_cases c : i = j
  · subst c
    rw [if_pos rfl, if_pos rfl, if_pos hj]
    rfl
  · rw [if_neg c, if_neg c]
theorem EnOk.go {ns c d : List Nat} {x : Nat} (e : EnOk n ps qs ns c d) (lt : ns.length < n) (bc : ∀ z, z < n → c.getD z 0 < n) (bd : ∀ z, z < n → d.getD z 0 < n) (hx : x < n) (eq : d.getD x 0 = c.getD ns.length 0) : x ∉ ns ∧ EnOk n ps qs (ns ++ [x]) (c.set ns.length n) (d.set x n) := by
  have no : x ∉ ns := fun m => by
    obtain ⟨i, hi⟩ := List.mem_iff_getElem?.mp m
    obtain ⟨_, a2, a3, _⟩ := e.uniq i x hi
    have z := a3 ns.length lt (by rw [a2, eq])
    have := (List.getElem?_eq_some_iff.mp hi).1
    omega
  refine ⟨no, by rw [List.length_append]; exact lt, by rw [List.length_set, e.lo], by rw [List.length_set, e.lp], fun r i s => ?_, fun i y h => ?_⟩
  · obtain ⟨s, rfl⟩ := s
    have k := e.keep _ i ⟨[x] ++ s, by rw [List.append_assoc]⟩
    intro z hz
    have at_ : (ns ++ [x] ++ s).getD ns.length 0 = x := by
      rw [List.append_assoc, List.getD_eq_getElem?_getD, List.getElem?_append_right (Nat.le_refl _), Nat.sub_self]
      rfl
    rw [getD_set (by rw [e.lo]; exact hz), getD_set (by rw [e.lp]; exact ord_lt i.o hz)]
    by_cases c1 : ns.length = z
    · subst c1
      rw [if_pos rfl, at_, if_pos rfl]
    · rw [if_neg c1, if_neg (fun q => c1 (ord_inj i.o lt hz (at_.trans q))), k z hz]
  · by_cases c1 : i < ns.length
    · rw [List.getElem?_append_left c1] at h
      obtain ⟨a1, a2, a3, a4⟩ := e.uniq i y h
      have ny : x ≠ y := fun q => no (by rw [q]; exact List.mem_of_getElem? h)
      have gi : (c.set ns.length n).getD i 0 = c.getD i 0 := by rw [getD_set (by rw [e.lo]; omega), if_neg (by omega)]
      have gy : (d.set x n).getD y 0 = d.getD y 0 := by rw [getD_set (by rw [e.lp]; exact a1), if_neg ny]
      refine ⟨a1, by rw [gi, gy, a2], fun z hz q => ?_, fun z hz q => ?_⟩
      · rw [gi, getD_set (by rw [e.lo]; exact hz)] at q
        by_cases c2 : ns.length = z
        · rw [if_pos c2] at q
          have := bc i (by omega)
          omega
        · rw [if_neg c2] at q
          exact a3 z hz q
      · rw [gy, getD_set (by rw [e.lp]; exact hz)] at q
        by_cases c2 : x = z
        · rw [if_pos c2] at q
          have := bd y a1
          omega
        · rw [if_neg c2] at q
          exact a4 z hz q
    · have li : i = ns.length := by
        have := (List.getElem?_eq_some_iff.mp h).1
        rw [List.length_append, List.length_singleton] at this
        omega
      subst li
      rw [List.getElem?_append_right (Nat.le_refl _), Nat.sub_self] at h
      cases h
      have gi : (c.set ns.length n).getD ns.length 0 = n := by rw [getD_set (by rw [e.lo]; exact lt), if_pos rfl]
      have gy : (d.set x n).getD x 0 = n := by rw [getD_set (by rw [e.lp]; exact hx), if_pos rfl]
      refine ⟨hx, by rw [gi, gy], fun z hz q => ?_, fun z hz q => ?_⟩
      · rw [gi, getD_set (by rw [e.lo]; exact hz)] at q
        by_cases c2 : ns.length = z
        · exact c2.symm
        · rw [if_neg c2] at q
          have := bc z hz
          omega
      · rw [gy, getD_set (by rw [e.lp]; exact hz)] at q
        by_cases c2 : x = z
        · exact c2.symm
        · rw [if_neg c2] at q
          have := bd z hz
          omega
/-- the namings that begin so, by the names that may come next -/
theorem gS_next {ns c d : List Nat} (e : EnOk n ps qs ns c d) (lt : ns.length < n) (bc : ∀ z, z < n → c.getD z 0 < n) (bd : ∀ z, z < n → d.getD z 0 < n) : gS n ps qs ns = ((List.range n).filter fun x => decide (d.getD x 0 = c.getD ns.length 0)).flatMap fun x => gS n ps qs (ns ++ [x]) := by
  rw [gS_go lt]
  refine flat_sub (fun x hx h => ?_) fun x hx h1 h2 => ?_
  · exact decide_eq_true (e.go lt bc bd (List.mem_range.mp hx) (of_decide_eq_true h)).1
  · have no := of_decide_eq_true h1
    have ne := of_decide_eq_false h2
    refine List.eq_nil_iff_forall_not_mem.mpr fun r m => ne ?_
    have o2 : ns ++ [x] ∈ ordS n (ns ++ [x]).length := by
      obtain ⟨_, a2, a3⟩ := ordS_mem.mp e.ord
      refine ordS_mem.mpr ⟨rfl, ((List.perm_append_singleton x ns).nodup_iff).mpr (List.nodup_cons.mpr ⟨no, a2⟩), fun y hy => ?_⟩
      rcases List.mem_append.mp hy with z | z
      · exact a3 y z
      · rw [List.mem_singleton.mp z]
        exact List.mem_range.mp hx
    obtain ⟨i, s, rfl⟩ := gS_mem (by rw [List.length_append]; exact lt) o2 m
    have k := e.keep _ i ⟨[x] ++ s, by rw [List.append_assoc]⟩ ns.length lt
    rw [k, List.append_assoc, List.getD_eq_getElem?_getD (l := ns ++ ([x] ++ s)), List.getElem?_append_right (Nat.le_refl _), Nat.sub_self]
    rfl
/-- how many entries there may be -/
def wE : Nat → Nat
  | 0 => 1
  | k + 1 => 1 + (k + 1) * wE k
theorem ch_len {ns c d : List Nat} (e : EnOk n ps qs ns c d) (lt : ns.length < n) (bc : ∀ z, z < n → c.getD z 0 < n) (bd : ∀ z, z < n → d.getD z 0 < n) : ((List.range n).filter fun x => decide (d.getD x 0 = c.getD ns.length 0)).length ≤ n - ns.length := by
  have nd : (((List.range n).filter fun x => decide (d.getD x 0 = c.getD ns.length 0)) ++ ns).Nodup := by
    refine List.nodup_append.mpr ⟨List.nodup_range.filter _, (ordS_mem.mp e.ord).2.1, fun a ha b hb q => ?_⟩
    obtain ⟨h1, h2⟩ := List.mem_filter.mp ha
    subst q
    exact (e.go lt bc bd (List.mem_range.mp h1) (of_decide_eq_true h2)).1 hb
  have z := nd.length_le_of_subset (l₂ := List.range n) fun x hx => by
    rcases List.mem_append.mp hx with h | h
    · exact (List.mem_filter.mp h).1
    · exact List.mem_range.mpr ((ordS_mem.mp e.ord).2.2 x h)
  rw [List.length_append, List.length_range] at z
  omega
end
end KD
set_option Elab.async false
set_option linter.all false
set_option maxRecDepth 100000
set_option maxHeartbeats 4000000
namespace KD
open PySem PySem.Spec PyProof.Rows L2 KW KC
/-- webs, and dicts whose keys are nested tuples -/
def ΩN (P : Program) (w : World) (C : Addr) : Obs := { ΩW C with nd := KW.ndP P w }
theorem ΩN_web {P : Program} {w : World} {C : Addr} : WebΩ (ΩN P w C) C := ⟨fun d G a => ⟨fun h => h.2, fun h => ⟨rfl, h⟩⟩⟩
theorem ΩN_nd {P : Program} {w : World} {C : Addr} : NdΩ (ΩN P w C) P w := ⟨rfl⟩
/-- how many colours there are -/
def nC (c : List Nat) : Nat := (firstMet (fun i => (c.map fun x => ((x : Nat) : Int)).getD i 0) (c.map fun x => ((x : Nat) : Int)).length).length
theorem nC_of {c : List Nat} {ks : List Int} (nd : ks.Nodup) (h : ∀ k, k ∈ ks ↔ k ∈ c.map fun x => ((x : Nat) : Int)) : ks.length = nC c := by
  refine Nat.le_antisymm (nd.length_le_of_subset fun k hk => (met_mem _ k).mpr ((h k).mp hk)) ?_
  exact (met_nodup _ _).length_le_of_subset fun k hk => (h k).mpr ((met_mem _ k).mp hk)
theorem nC_ge {n : Nat} {ps : List (Nat × Nat)} {cs : List Nat} {Z : List Look} (nd : Z.Nodup) (h : ∀ a, a ∈ Z ↔ a ∈ looks n ps cs) : Z.length ≤ nC (recol n ps cs Z.idxOf) := by
  have z : ((List.range Z.length).map fun i => ((i : Nat) : Int)).Nodup := List.Pairwise.map (R := fun a b : Nat => a ≠ b) _ (fun a b h e => h (by omega)) List.nodup_range
  have y := z.length_le_of_subset (l₂ := firstMet (fun i => ((recol n ps cs Z.idxOf).map fun x => ((x : Nat) : Int)).getD i 0) ((recol n ps cs Z.idxOf).map fun x => ((x : Nat) : Int)).length) fun k hk => by
    obtain ⟨i, hi, rfl⟩ := List.mem_map.mp hk
    have li := List.mem_range.mp hi
    refine (met_mem _ _).mpr (List.mem_map.mpr ⟨i, ?_, rfl⟩)
    unfold recol
    exact List.mem_map.mpr ⟨Z[i], (h _).mp (List.getElem_mem li), nd.idxOf_getElem _ _⟩
  rw [List.length_map, List.length_range] at y
  exact y
theorem nC_fst {n : Nat} {ps : List (Nat × Nat)} {cs : List Nat} (l : cs.length = n) {Z : List Look} (h : ∀ a, a ∈ Z ↔ a ∈ looks n ps cs) : nC cs ≤ Z.length := by
  have z := (met_nodup (fun i => (cs.map fun x => ((x : Nat) : Int)).getD i 0) (cs.map fun x => ((x : Nat) : Int)).length).length_le_of_subset (l₂ := Z.map fun a => ((a.1 : Nat) : Int)) fun k hk => by
    obtain ⟨x, hx, rfl⟩ := List.mem_map.mp ((met_mem _ k).mp hk)
    obtain ⟨i, hi⟩ := List.mem_iff_getElem?.mp hx
    have li := (List.getElem?_eq_some_iff.mp hi).1
    refine List.mem_map.mpr ⟨lookL ps cs i, (h _).mpr (looks_mem.mpr ⟨i, by omega, rfl⟩), ?_⟩
    show ((cs.getD i 0 : Nat) : Int) = x
    rw [List.getD_eq_getElem?_getD, hi]
    rfl
  rw [show (cs.map fun x => ((x : Nat) : Int)).length = cs.length from List.length_map _] at z
  unfold nC
  rw [show (cs.map fun x => ((x : Nat) : Int)).length = cs.length from List.length_map _]
  rw [List.length_map] at z
  exact z
theorem looks_len {n : Nat} {ps : List (Nat × Nat)} {cs : List Nat} : (looks n ps cs).length = n := by
  unfold looks
  rw [List.length_map, List.length_range]
theorem pl_look (a : Look) : pl 59 (lookV a) := fun d hd => by
  rcases List.mem_cons.mp hd with rfl | hd
  · exact pl_int
  rcases List.mem_cons.mp hd with rfl | hd
  · exact show pl 58 (.ftup _) from pl_map fun _ _ => pl_int
  · rw [List.mem_singleton.mp hd]
    exact show pl 58 (.ftup _) from pl_map fun _ _ => pl_int
def nearD (n : Nat) (ps : List (Nat × Nat)) : D := .lst ((List.range n).map (nbD ps))
def colD (c : List Nat) : D := .lst (c.map natD)
def mfColoured : MF where
  n := 4
  wp := fun ds Q _ => ∃ (n : Nat) (ps qs : List (Nat × Nat)) (c0 d0 : List Nat), ds = [nearD n ps, nearD n qs, colD c0, colD d0] ∧ Good n ps ∧ Good n qs ∧ n ≤ 100 ∧ ps.length ≤ 400 ∧ qs.length ≤ 400 ∧ c0.length = n ∧ d0.length = n ∧
    ((∀ r, IsoL n ps qs r → ¬ Kp n c0 d0 r) → Q .non) ∧ ∀ c d : List Nat, c.length = n → d.length = n → Ref n ps qs c0 d0 c d → (∀ z, z < n → c.getD z 0 < n) → (∀ z, z < n → d.getD z 0 < n) → (looks n ps c0).Perm (looks n qs d0) → Q (.tup [colD c, colD d])
  mono := fun h _ ⟨n, ps, qs, c0, d0, a, b, c, d, e, f, g, i, q1, q2⟩ => ⟨n, ps, qs, c0, d0, a, b, c, d, e, f, g, i, fun z => h _ (q1 z), fun c d x y z u v w => h _ (q2 c d x y z u v w)⟩
  len := fun ⟨n, ps, qs, c0, d0, a, _⟩ => by rw [a]; rfl
def mfLeading : MF where
  n := 3
  wp := fun ds Q _ => ∃ (n : Nat) (ps : List (Nat × Nat)) (r s : Nat), ds = [webO n ps, .int r, .int s] ∧ r < n ∧ s < n ∧ Q (natD (ps.count (r, s)))
  mono := fun h _ ⟨n, ps, r, s, a, b, c, q⟩ => ⟨n, ps, r, s, a, b, c, h _ q⟩
  len := fun ⟨n, ps, r, s, a, _⟩ => by rw [a]; rfl
theorem cnt_count (ps : List (Nat × Nat)) (a b : Nat) : KW.cnt ps a b = ps.count (a, b) := by
  unfold KW.cnt
  rw [List.countP_map, List.count_eq_countP]
  refine List.countP_congr fun p _ => ?_
  obtain ⟨u, v⟩ := p
  simp only [Function.comp, pD, beq_iff_eq, Prod.mk.injEq]
  simp [PyData.eqv, PyData.eqvAll]
  omega
theorem d_leading {P : Program} {w : World} {K : PySem.W.Frag} {mg : Str → Option Value} {base : Heap} {CX : CXT} {k : Nat} {f C : Addr} {fd : FuncData} {ps : List Str} {Ω : Obs} (W : WebΩ Ω C) (F : FnOk P w K mg base CX k f fd ps (spLeading C)) : FnOk P w K mg base CX k f fd ps (spD Ω mfLeading) := F.imp fun vs H Q E h => by
  obtain ⟨G, ds, s, r, n, ps, i, j, rfl, l1, l2, q⟩ := h
  cases r with
  | cons ra r =>
    cases r with
    | cons rb r =>
      obtain ⟨v, rfl, rv⟩ := r.one
      cases rv
      cases rb
      obtain ⟨x, rfl, hx, _⟩ := rep_web W ra
      refine ⟨x, n, ps, i, j, rfl, hx.same s, l1, l2, fun H' s' => ?_⟩
      rw [cnt_count]
      exact q G _ H' s' (Same.refl _) (s.trans s') (New.refl _ _) (.int _)
structure En where
  ns : List Nat
  o : List Nat
  p : List Nat
def enE (e : En) : D := .tup [.tup (e.ns.map natD), colD e.o, colD e.p]
def wSt (n : Nat) (st : List En) : Nat := (st.map fun e => wE (n - e.ns.length)).sum
theorem wE_pos : ∀ k, 1 ≤ wE k
  | 0 => Nat.le_refl _
  | k + 1 => Nat.le_add_right _ _
theorem wE_six {n : Nat} (h : n ≤ 6) : wE n ≤ 1957 := by
  have z : ∀ j : Fin 7, wE j.1 ≤ 1957 := by decide
  exact z ⟨n, by omega⟩
theorem wSt_app (n : Nat) (a b : List En) : wSt n (a ++ b) = wSt n a + wSt n b := by
  unfold wSt
  rw [List.map_append, List.sum_append]
theorem wSt_len (n : Nat) : ∀ a : List En, a.length ≤ wSt n a
  | [] => Nat.zero_le _
  | e :: a => by
    have h := wSt_len n a
    have p := wE_pos (n - e.ns.length)
    show a.length + 1 ≤ wE (n - e.ns.length) + wSt n a
    omega
theorem wSt_all {n k : Nat} : ∀ {a : List En}, (∀ e ∈ a, e.ns.length = k) → wSt n a = a.length * wE (n - k)
  | [], _ => (Nat.zero_mul _).symm
  | e :: a, h => by
    show wE (n - e.ns.length) + wSt n a = (a.length + 1) * wE (n - k)
    rw [wSt_all fun x hx => h x (List.mem_cons_of_mem _ hx), h e List.mem_cons_self, Nat.succ_mul]
    exact Nat.add_comm _ _
section
variable {P : Program} {w : World} {K : PySem.W.Frag} {mg : Str → Option Value} {base : Heap} {Ω : Obs} {C : Addr}
abbrev sColoured : Stmt := topS 22
abbrev nColoured : List Str := ["near", "far", "ones", "others", "one_looks", "other_looks", "numbers", "known", "at", "look"]
theorem scColoured : FnScope nColoured ["near", "far", "ones", "others"] (defScope sColoured) := ⟨rfl, rfl, rfl, by decide +kernel, rfl, by decide +kernel, by decide +kernel⟩
theorem cal_Coloured {f : Addr} {fd : FuncData} (F : Fun K "coloured" "coloured" sColoured f fd) (b : Binds K fd ["near", "far", "ones", "others"] []) (m : mg "coloured" = some (.ref f)) (k : PySem.W.keepIn K (.ref f) = true) (cLooksOf : Cal P w K mg base CX0 1 "looks_of" ["near", "colours"] (spO Ω mfLooksOf)) (nω : NdΩ Ω P w) (mEnum : mg "enumerate" = none) (mLen : mg "len" = none) (mSet : mg "set" = none) (mSorted : mg "sorted" = none) :
    Cal P w K mg base CX0 2 "coloured" ["near", "far", "ones", "others"] (spD Ω mfColoured) := by
  refine ⟨f, fd, F.ok scColoured (fun vs H Q E h => spD_len h) (fun cdv A outer s H vs Q E hr h => ?_), b, m, k⟩
  obtain ⟨fLooksOf, fdLooksOf, GLooksOf, bLooksOf, mLooksOf, kLooksOf⟩ := cLooksOf
  have hrLooksOf : Room 1 _ := hr.mono (by decide)
  refine ⟨_, (pss_one (ps_while PassesOwn.never (pt_val pe_bl)
 (pss_cons (ps_set (i := 4) scColoured.nd rfl (Or.inl rfl) (pe_call GLooksOf hrLooksOf rfl mLooksOf kLooksOf bLooksOf .nil pass0 (pa_cons (pv 0) (pa_cons (pv 2) pa_nil))))
 (pss_cons (ps_set (i := 5) scColoured.nd rfl (Or.inl rfl) (pe_call GLooksOf hrLooksOf rfl mLooksOf kLooksOf bLooksOf .nil pass0 (pa_cons (pv 1) (pa_cons (pv 3) pa_nil))))
 (pss_cons (ps_if (pt_cmpR (op_neD hr.units) (pe_callB (KN.cr_sortN (K := K) rfl rfl rfl hr.units) (by rfl) mSorted (by decide +kernel) (pa_cons (pv 4) pa_nil)) (pe_callB (KN.cr_sortN (K := K) rfl rfl rfl hr.units) (by rfl) mSorted (by decide +kernel) (pa_cons (pv 5) pa_nil)) (nomark _))
 (pss_one (ps_ret pe_non))
 pss_nil)
 (pss_cons (ps_set (i := 6) scColoured.nd rfl (Or.inr rfl) (KW.pe_keep (KW.pe_dcN (own := [("at", 8), ("look", 9)]) (g := (gTup K 2 (gCons (gName 8) (gCons (gName 9) gNil)))) (tt := tYes) (hu8_of hr) rfl scColoured.nd (pi_enum (by rfl) mEnum (pa_cons (pe_callB (KN.cr_sortSetN (K := K) rfl rfl rfl rfl hr.units) (by rfl) mSorted (by decide +kernel) (pa_cons (pe_callTy (KN.cr_setOfN (K := K) rfl rfl rfl rfl hr.units) (by rfl) mSet PyProof.Rows.boot_set (pa_cons (pv 4) pa_nil)) pa_nil)) pa_nil)) (blkOk_by (own := [("at", 8), ("look", 9)]) (N := nColoured) (sc := defScope sColoured) (by decide +kernel)) (fun _ _ _ _ _ => (pg_tup rfl (pgs_cons (pg_name (i := 8) scColoured.nd rfl (Or.inl rfl)) (pgs_cons (pg_name (i := 9) scColoured.nd rfl (Or.inl rfl)) pgs_nil)))) (fun _ _ _ _ _ => pts_nil) (fun _ _ _ _ _ => (pv 9)) (fun _ _ _ _ _ => (pv 8)))))
 (pss_cons (ps_set (i := 7) scColoured.nd rfl (Or.inl rfl) (pe_lenSetD (K := K) rfl (by rfl) mLen (by rfl) mSet (pv 2)))
 (pss_cons (ps_setLc (i := 2) (own := [("look", 9)]) (g := (gName 9)) (tt := tYes) rfl scColoured.nd rfl rfl (sw_true rfl rfl rfl (by decide +kernel)) (pi_list (pv 4)) (blkOk_by (own := [("look", 9)]) (N := nColoured) (sc := defScope sColoured) (by decide +kernel)) (fun _ _ _ _ _ => (pg_name (i := 9) scColoured.nd rfl (Or.inl rfl))) (fun _ _ _ _ _ => pts_nil) (fun _ _ _ _ _ => (KW.pe_nget (hu9_of hr) (pv 6) (pv 9) (fun _ _ => rfl))))
 (pss_cons (ps_setLc (i := 3) (own := [("look", 9)]) (g := (gName 9)) (tt := tYes) rfl scColoured.nd rfl rfl (sw_true rfl rfl rfl (by decide +kernel)) (pi_list (pv 5)) (blkOk_by (own := [("look", 9)]) (N := nColoured) (sc := defScope sColoured) (by decide +kernel)) (fun _ _ _ _ _ => (pg_name (i := 9) scColoured.nd rfl (Or.inl rfl))) (fun _ _ _ _ _ => pts_nil) (fun _ _ _ _ _ => (KW.pe_nget (hu9_of hr) (pv 6) (pv 9) (fun _ _ => rfl))))
 (pss_one (ps_if (pt_cmpR op_eq (pe_callB KW.call_lenN (by rfl) mLen PySem.boot_len (pa_cons (pv 6) pa_nil)) (pv 7) (nomark _))
 (pss_one (ps_ret (pe_tup (pa_cons (pv 2) (pa_cons (pv 3) pa_nil)))))
 pss_nil))))))))))),
    run_pure h 6 rfl (fun A => (ds_while (dt_val dn_bl)
 (ds_seq (ds_set (dn_own (do_call0 (da_cons dn_var (da_cons dn_var da_nil)))))
 (ds_seq (ds_set (dn_own (do_call0 (da_cons dn_var (da_cons dn_var da_nil)))))
 (ds_seq (ds_if (dt_test (dn_op op_ned (dn_own (do_callB c_sortN (da_cons dn_var da_nil))) (dn_own (do_callB c_sortN (da_cons dn_var da_nil)))))
 (ds_ret dn_non)
 ds_next)
 (ds_seq (ds_set (dn_dcNd nω (di_enum (da_cons (dn_own (do_sortSetN dn_var)) da_nil)) (dg_tup (dgs_cons dg_name (dgs_cons dg_name dgs_nil))) dt_yes dn_var dn_var (by decide)))
 (ds_seq (ds_set (dn_lenSet dn_var))
 (ds_seq (ds_set (dn_own (do_lc (di_list dn_var) dg_name dt_yes (dn_nget nω dn_var) (by decide))))
 (ds_seq (ds_set (dn_own (do_lc (di_list dn_var) dg_name dt_yes (dn_nget nω dn_var) (by decide))))
 (ds_if (dt_test (dn_op op_eqS (dn_callB (c_lenN nω) (da_cons dn_var da_nil)) dn_var))
 (ds_ret (dn_tup (da_cons dn_var (da_cons dn_var da_nil))))
 ds_next)))))))))) (fun ds Q Ex hyp => ?_)⟩
  obtain ⟨n, ps, qs, c0, d0, rfl, hG, hG2, hn, hl, hl2, lc, ld, q1, q2⟩ := hyp
  have hP : In2 n ps := hG.2.1
  refine ⟨fun t env => ∃ (c d : List Nat) (v4 v5 v6 v7 v8 v9 : E1), env = [.d (nearD n ps), .d (nearD n qs), .d (colD c), .d (colD d), v4, v5, v6, v7, v8, v9] ∧ c.length = n ∧ d.length = n ∧ t = n - nC c ∧ Ref n ps qs c0 d0 c d ∧ ((c = c0 ∧ d = d0) ∨ (looks n ps c0).Perm (looks n qs d0)), ⟨_, c0, d0, _, _, _, _, _, _, rfl, lc, ld, rfl, .refl, .inl ⟨rfl, rfl⟩⟩, ?_⟩
  rintro t env ⟨c, d, v4, v5, v6, v7, v8, v9, rfl, lc', ld', et, R, st⟩
  dsimp only [gdName]
  refine ⟨_, rfl, ?_⟩
  refine iteT ?_
  have k1 : ∀ {ps' : List (Nat × Nat)} {c' : List Nat}, (List.range n).map (lookD ps' c') = (looks n ps' c').map lookV := fun {ps' c'} => by
    unfold looks
    rw [List.map_map]
    rfl
  refine MS.cut (fun env => env = [.d (nearD n ps), .d (nearD n qs), .d (colD c), .d (colD d), .d (.lst ((looks n ps c).map lookV)), v5, v6, v7, v8, v9]) ?_ ?_
  · refine ⟨_, rfl, _, rfl, n, ps, c, rfl, hG, hn, hl, lc', ?_⟩
    rw [k1]
    rfl
  rintro env rfl
  refine MS.cut (fun env => env = [.d (nearD n ps), .d (nearD n qs), .d (colD c), .d (colD d), .d (.lst ((looks n ps c).map lookV)), .d (.lst ((looks n qs d).map lookV)), v6, v7, v8, v9]) ?_ ?_
  · refine ⟨_, rfl, _, rfl, n, qs, d, rfl, hG2, hn, hl2, ld', ?_⟩
    rw [k1]
    rfl
  rintro env rfl
  refine MS.cut (fun env => (looks n ps c).Perm (looks n qs d) ∧ env = [.d (nearD n ps), .d (nearD n qs), .d (colD c), .d (colD d), .d (.lst ((looks n ps c).map lookV)), .d (.lst ((looks n qs d).map lookV)), v6, v7, v8, v9]) ?_ ?_
  · refine ⟨_, rfl, _, _, _, [true, false, false], rfl, rfl, Rw.rows_paired lookV_row _, fun r hr => ?_, by decide, fun z1 r1 a1 a2 a3 a4 => ?_⟩
    · obtain ⟨a, _, rfl⟩ := List.mem_map.mp hr
      exact lookR_flat a
    obtain ⟨Z1, rfl, p1⟩ := perm_lift a2 rfl
    obtain rfl := Rw.paired_rows lookV_row a1
    refine ⟨_, rfl, _, _, _, [true, false, false], rfl, rfl, Rw.rows_paired lookV_row _, fun r hr => ?_, by decide, fun z2 r2 b1 b2 b3 b4 => ?_⟩
    · obtain ⟨a, _, rfl⟩ := List.mem_map.mp hr
      exact lookR_flat a
    obtain ⟨Z2, rfl, p2⟩ := perm_lift b2 rfl
    obtain rfl := Rw.paired_rows lookV_row b1
    dsimp only [M.ret]
    refine Rw.eqd_rows (f := not) (l := Z1) (m := Z2) lookV_row (fun x y => lookR_inj) pl_look ?_
    refine ⟨_, rfl, ?_⟩
    have iff := Rw.sorted_rows (h := lookR) (fun x y => lookR_inj) p1 p2 a4 b4
    by_cases e : Z1 = Z2
    · rw [decide_eq_true e]
      exact iteF ⟨iff.mp e, rfl⟩
    · rw [decide_eq_false e]
      exact iteT (q1 fun r i k => e (iff.mpr (iso_looks i hP (R.keep r i k))))
  rintro env ⟨pm, rfl⟩
  refine MS.cut (fun env => ∃ (Z : List Look) (ys : List (NK × D)) (v8 v9 : E1), Z.Nodup ∧ (∀ a, a ∈ Z ↔ a ∈ looks n ps c) ∧ (∀ a ∈ Z, valND ys (KN.rowK (lookR a)) = some (natD (Z.idxOf a))) ∧ smallN ys ∧ ys.length = Z.length ∧ env = [.d (nearD n ps), .d (nearD n qs), .d (colD c), .d (colD d), .d (.lst ((looks n ps c).map lookV)), .d (.lst ((looks n qs d).map lookV)), .d (.ndb ys), v7, v8, v9]) ?_ ?_
  · refine ⟨_, rfl, _, _, [true, false, false], rfl, Rw.rows_paired lookV_row _, by rw [List.length_map, looks_len]; omega, fun r hr => ?_, by decide, fun zs rs a1 a2 a3 a4 a5 => ?_⟩
    · obtain ⟨a, _, rfl⟩ := List.mem_map.mp hr
      exact lookR_flat a
    obtain ⟨Z, rfl, rfl, nd, hZ⟩ := Rw.pick_rows lookV_row (fun x _ y _ => lookR_inj) a1 a2 a3 a5
    have lZ : Z.length ≤ n := by
      have z := nd.length_le_of_subset (l₂ := looks n ps c) fun a ha => (hZ a).mp ha
      rwa [looks_len] at z
    have inj : ∀ a b : Look, KN.rowK (lookR a) = KN.rowK (lookR b) → a = b := fun a b e => lookR_inj (KN.rowK_inj e)
    refine ⟨_, _, rfl, rfl, by rw [enumD_len, List.length_map]; omega, fun i ys => ys = (Z.take i).map fun a => (KN.rowK (lookR a), natD (Z.idxOf a)), rfl, ?_, ?_⟩
    · rintro i x ys hx rfl
      obtain ⟨y, hy, rfl⟩ := enum_at hx
      obtain ⟨a, ha, rfl⟩ := map_at hy
      obtain ⟨li, ea⟩ := List.getElem?_eq_some_iff.mp ha
      refine ⟨_, rfl, rfl, _, _, rfl, _, _, rfl, rfl, ?_⟩
      dsimp only [M.ret]
      refine iteT ⟨_, rfl, _, rfl, _, lookV_row a, Nat.le_trans (KN.rowK_deep _) (by decide), ?_⟩
      have no : a ∉ Z.take i := fun m => by
        obtain ⟨j, hj⟩ := List.mem_iff_getElem?.mp m
        rw [List.getElem?_take] at hj
        split at hj
        · rename_i lt
          have := (List.getElem?_inj (l := Z) (i := j) (j := i) (by omega) nd).mp (hj.trans ha.symm)
          omega
        · cases hj
      show putND _ _ _ = _
      rw [Rw.putND_map (ky := fun a => KN.rowK (lookR a)) (h := a) (fun b _ e => inj b a e) no, List.take_succ, ha, List.map_append]
      show _ = _ ++ [(KN.rowK (lookR a), natD (Z.idxOf a))]
      rw [← ea, nd.idxOf_getElem]
      rfl
    · rintro ys sm iv
      rw [enumD_len, List.length_map, List.take_length] at iv
      subst iv
      refine ⟨Z, _, _, _, nd, hZ, fun a ha => ?_, sm, by rw [List.length_map], rfl⟩
      exact (Rw.valND_map (ky := fun a => KN.rowK (lookR a)) (g := fun a => natD (Z.idxOf a)) (h := a) fun b _ e => inj b a e).1 ha
  rintro env ⟨Z, ys, v8, v9, nd, hZ, hys, sm, ly, rfl⟩
  have lZ : Z.length ≤ n := by
    have z := nd.length_le_of_subset (l₂ := looks n ps c) fun a ha => (hZ a).mp ha
    rwa [looks_len] at z
  refine MS.cut (fun env => env = [.d (nearD n ps), .d (nearD n qs), .d (colD c), .d (colD d), .d (.lst ((looks n ps c).map lookV)), .d (.lst ((looks n qs d).map lookV)), .d (.ndb ys), .d (natD (nC c)), v8, v9]) ?_ ?_
  · refine ⟨_, rfl, c.map fun x => ((x : Nat) : Int), by show D.lst _ = D.lst _; rw [List.map_map]; rfl, by rw [List.length_map]; omega, fun ks nk hk => ?_⟩
    rw [nC_of nk hk]
    rfl
  rintro env rfl
  have bdi : ∀ a ∈ looks n ps c, Z.idxOf a < n := fun a ha => Nat.lt_of_lt_of_le (List.idxOf_lt_length_of_mem ((hZ a).mpr ha)) lZ
  refine MS.cut (fun env => ∃ v9, env = [.d (nearD n ps), .d (nearD n qs), .d (colD (recol n ps c Z.idxOf)), .d (colD d), .d (.lst ((looks n ps c).map lookV)), .d (.lst ((looks n qs d).map lookV)), .d (.ndb ys), .d (natD (nC c)), v8, v9]) ?_ ?_
  · refine ⟨_, rfl, _, rfl, by rw [List.length_map, looks_len]; omega, fun i xs => xs = ((looks n ps c).take i).map fun a => natD (Z.idxOf a), rfl, ?_, ?_⟩
    · rintro i x xs hx rfl
      obtain ⟨a, ha, rfl⟩ := map_at hx
      dsimp only [M.ret]
      refine iteT ⟨_, .inr rfl, sm, _, rfl, _, _, lookV_row a, Nat.le_trans (KN.rowK_deep _) (by decide), hys a ((hZ a).mpr (List.mem_of_getElem? ha)), ?_⟩
      show _ ++ [natD (Z.idxOf a)] = _
      rw [List.take_succ, ha, List.map_append]
      rfl
    · rintro xs rfl
      rw [List.length_map, List.take_length]
      refine ⟨v9, ?_⟩
      unfold colD recol
      rw [List.map_map]
      rfl
  rintro env ⟨v9, rfl⟩
  refine MS.cut (fun env => ∃ v9, env = [.d (nearD n ps), .d (nearD n qs), .d (colD (recol n ps c Z.idxOf)), .d (colD (recol n qs d Z.idxOf)), .d (.lst ((looks n ps c).map lookV)), .d (.lst ((looks n qs d).map lookV)), .d (.ndb ys), .d (natD (nC c)), v8, v9]) ?_ ?_
  · refine ⟨_, rfl, _, rfl, by rw [List.length_map, looks_len]; omega, fun i xs => xs = ((looks n qs d).take i).map fun a => natD (Z.idxOf a), rfl, ?_, ?_⟩
    · rintro i x xs hx rfl
      obtain ⟨a, ha, rfl⟩ := map_at hx
      dsimp only [M.ret]
      refine iteT ⟨_, .inr rfl, sm, _, rfl, _, _, lookV_row a, Nat.le_trans (KN.rowK_deep _) (by decide), hys a ((hZ a).mpr (pm.mem_iff.mpr (List.mem_of_getElem? ha))), ?_⟩
      show _ ++ [natD (Z.idxOf a)] = _
      rw [List.take_succ, ha, List.map_append]
      rfl
    · rintro xs rfl
      rw [List.length_map, List.take_length]
      refine ⟨v9, ?_⟩
      unfold colD recol
      rw [List.map_map, List.map_map]
      rfl
  rintro env ⟨v9, rfl⟩
  have R2 : Ref n ps qs c d (recol n ps c Z.idxOf) (recol n qs d Z.idxOf) := ref_step hP pm fun a ha b hb e => by
    have h1 := (hZ a).mpr ha
    have h2 := (hZ b).mpr hb
    have e1 := List.getElem_idxOf (List.idxOf_lt_length_of_mem h1)
    have e2 := List.getElem_idxOf (List.idxOf_lt_length_of_mem h2)
    rw [← e1, ← e2]
    congr 1
  have st2 : (looks n ps c0).Perm (looks n qs d0) := by
    rcases st with ⟨rfl, rfl⟩ | st
    · exact pm
    · exact st
  refine ⟨_, rfl, _, rfl, _, rfl, ?_⟩
  refine ⟨_, _, rfl, rfl, rfl, _, rfl, ?_⟩
  have nz := nC_fst (ps := ps) lc' hZ
  show (if decide (V.int ((ys.length : Nat) : Int) = V.int ((nC c : Nat) : Int)) = true then _ else _)
  by_cases e : Z.length = nC c
  · rw [decide_eq_true (by rw [ly, e])]
    refine iteT ⟨_, rfl, _, rfl, q2 _ _ recol_len recol_len (R.trans R2) (fun z hz => ?_) (fun z hz => ?_) st2⟩
    · rw [recol_at hz]
      exact bdi _ (looks_mem.mpr ⟨z, hz, rfl⟩)
    · rw [recol_at hz]
      exact bdi _ (pm.mem_iff.mpr (looks_mem.mpr ⟨z, hz, rfl⟩))
  · rw [decide_eq_false (fun z => e (by injection z with z; omega))]
    refine iteF ⟨n - nC (recol n ps c Z.idxOf), ?_, _, _, _, _, _, _, _, _, rfl, recol_len, recol_len, rfl, R.trans R2, .inr st2⟩
    have := nC_ge nd hZ
    omega
/-- the first naming, or none -/
noncomputable def naD (n : Nat) (ps : List (Nat × Nat)) (m : Nat) (qs : List (Nat × Nat)) : D := match namL n ps m qs with
  | [] => .non
  | r :: _ => nlD r
def mfNaming : MF where
  n := 2
  wp := fun ds Q _ => ∃ (n : Nat) (ps : List (Nat × Nat)) (m : Nat) (qs : List (Nat × Nat)), ds = [webO n ps, webO m qs] ∧ Good n ps ∧ Good m qs ∧ n ≤ 6 ∧ ps.length ≤ 400 ∧ qs.length ≤ 400 ∧ Q (naD n ps m qs)
  mono := fun h _ ⟨n, ps, m, qs, a, b, c, d, e, f, q⟩ => ⟨n, ps, m, qs, a, b, c, d, e, f, h _ q⟩
  len := fun ⟨n, ps, m, qs, a, _⟩ => by rw [a]; rfl
theorem namL_gS {n : Nat} {ps qs : List (Nat × Nat)} : namL n ps n qs = gS n ps qs [] := by
  rw [gS_nil]
  unfold namL
  by_cases c : ps.length = qs.length
  · rw [if_pos ⟨rfl, c⟩]
  · rw [if_neg (fun z => c z.2)]
    refine (List.filter_eq_nil_iff.mpr fun r _ h => c ?_).symm
    have z := (of_decide_eq_true h : (ps.map (namF r)).Perm qs).length_eq
    rw [List.length_map] at z
    exact z
abbrev sNaming : Stmt := topS 24
abbrev nNaming : List Str := ["one", "other", "rooms", "near", "far", "waiting", "tried", "names", "ones", "others", "colours", "room"]
theorem scNaming : FnScope nNaming ["one", "other"] (defScope sNaming) := ⟨rfl, rfl, rfl, by decide +kernel, rfl, by decide +kernel, by decide +kernel⟩
theorem cal_Naming {f : Addr} {fd : FuncData} (F : Fun K "naming" "naming" sNaming f fd) (b : Binds K fd ["one", "other"] []) (m : mg "naming" = some (.ref f)) (k : PySem.W.keepIn K (.ref f) = true) (cNeighbours : Cal P w K mg base CX0 4 "neighbours" ["web"] (spO Ω mfNeighbours)) (cColoured : Cal P w K mg base CX0 2 "coloured" ["near", "far", "ones", "others"] (spD Ω mfColoured)) (cFurther : Cal P w K mg base CX0 2 "further" ["names", "ones", "others"] (spO Ω mfFurther)) (cRooms : CalM P w K mg base CX0 1 C "rooms" ["self"] (spD Ω mfRooms)) (cLeading : CalM P w K mg base CX0 2 C "leading" ["self", "one", "other"] (spD Ω mfLeading)) (TWeb : WebC K C) (W : WebΩ Ω C) (m_MOST_TREE : ∃ t : Tok, mg "MOST_TREE" = some (.int 8000 t)) (mLen : mg "len" = none) (mList : mg "list" = none) (mRange : mg "range" = none) :
    Cal P w K mg base CX0 5 "naming" ["one", "other"] (spD Ω mfNaming) := by
  refine ⟨f, fd, F.ok scNaming (fun vs H Q E h => spD_len h) (fun cdv A outer s H vs Q E hr h => ?_), b, m, k⟩
  obtain ⟨t_MOST_TREE, m_MOST_TREE⟩ := m_MOST_TREE
  obtain ⟨fNeighbours, fdNeighbours, GNeighbours, bNeighbours, mNeighbours, kNeighbours⟩ := cNeighbours
  have hrNeighbours : Room 4 _ := hr.mono (by decide)
  obtain ⟨fColoured, fdColoured, GColoured, bColoured, mColoured, kColoured⟩ := cColoured
  have hrColoured : Room 2 _ := hr.mono (by decide)
  obtain ⟨fFurther, fdFurther, GFurther, bFurther, mFurther, kFurther⟩ := cFurther
  have hrFurther : Room 2 _ := hr.mono (by decide)
  obtain ⟨fRooms, fdRooms, GRooms, bRooms, mRooms⟩ := cRooms
  have hrRooms : Room 1 _ := hr.mono (by decide)
  have ioRooms : InsOf Ω 0 C "rooms" := web_ins W rfl (fun n q lv en => wf_meth n q lv en (by decide +kernel))
  obtain ⟨fLeading, fdLeading, GLeading, bLeading, mLeading⟩ := cLeading
  have hrLeading : Room 2 _ := hr.mono (by decide)
  have ioLeading : InsOf Ω 0 C "leading" := web_ins W rfl (fun n q lv en => wf_meth n q lv en (by decide +kernel))
  refine ⟨_, (pss_cons (ps_set (i := 2) scNaming.nd rfl (Or.inl rfl) (pe_meth0 (pv 0) TWeb.cl mRooms GRooms hrRooms bRooms .nil pass0))
 (pss_cons (ps_if (pt_cmpR op_ne (pe_meth0 (pv 1) TWeb.cl mRooms GRooms hrRooms bRooms .nil pass0) (pv 2) (nomark _))
 (pss_one (ps_ret pe_non))
 pss_nil)
 (pss_cons (ps_set (i := 3) scNaming.nd rfl (Or.inl rfl) (pe_call GNeighbours hrNeighbours rfl mNeighbours kNeighbours bNeighbours .nil pass0 (pa_cons (pv 0) pa_nil)))
 (pss_cons (ps_set (i := 4) scNaming.nd rfl (Or.inl rfl) (pe_call GNeighbours hrNeighbours rfl mNeighbours kNeighbours bNeighbours .nil pass0 (pa_cons (pv 1) pa_nil)))
 (pss_cons (ps_set (i := 5) scNaming.nd rfl (Or.inl rfl) (pe_lst (pa_cons (pe_tup (pa_cons (pe_tup pa_nil) (pa_cons (pe_lc (own := [("room", 11)]) (g := (gName 11)) (tt := tYes) rfl scNaming.nd (pi_range1 (by rfl) mRange (pa_cons (pv 2) pa_nil)) (blkOk_by (own := [("room", 11)]) (N := nNaming) (sc := defScope sNaming) (by decide +kernel)) (fun _ _ _ _ _ => (pg_name (i := 11) scNaming.nd rfl (Or.inl rfl))) (fun _ _ _ _ _ => pts_nil) (fun _ _ _ _ _ => (pe_meth (pv 0) TWeb.cl mLeading GLeading hrLeading bLeading .nil pass0 (pa_cons (pv 11) (pa_cons (pv 11) pa_nil))))) (pa_cons (pe_lc (own := [("room", 11)]) (g := (gName 11)) (tt := tYes) rfl scNaming.nd (pi_range1 (by rfl) mRange (pa_cons (pv 2) pa_nil)) (blkOk_by (own := [("room", 11)]) (N := nNaming) (sc := defScope sNaming) (by decide +kernel)) (fun _ _ _ _ _ => (pg_name (i := 11) scNaming.nd rfl (Or.inl rfl))) (fun _ _ _ _ _ => pts_nil) (fun _ _ _ _ _ => (pe_meth (pv 1) TWeb.cl mLeading GLeading hrLeading bLeading .nil pass0 (pa_cons (pv 11) (pa_cons (pv 11) pa_nil))))) pa_nil)))) pa_nil)))
 (pss_cons (ps_set (i := 6) scNaming.nd rfl (Or.inl rfl) pe_int)
 (pss_cons (ps_while PassesOwn.never (pt_cmpR op_gt (pe_callB call_len_seq (by rfl) mLen PySem.boot_len (pa_cons (pv 5) pa_nil)) pe_int (nomark _))
 (pss_cons (ps_asg (pe_bm0 PySem.F.plainAttrs_list PySem.F.slot_list_pop PySem.F.type_list_pop mt_pop (pv 5)) (pg_tup rfl (pgs_cons (pg_name (i := 7) scNaming.nd rfl (Or.inl rfl)) (pgs_cons (pg_name (i := 8) scNaming.nd rfl (Or.inl rfl)) (pgs_cons (pg_name (i := 9) scNaming.nd rfl (Or.inl rfl)) pgs_nil)))))
 (pss_cons (ps_aug (i := 6) scNaming.nd rfl (Or.inl rfl) pe_int ip_add)
 (pss_cons (ps_if (pt_cmpR op_gt (pv 6) (pe_glob (v := .int (8000)) rfl m_MOST_TREE ⟨_, rfl⟩) (nomark _))
 pss_never
 pss_nil)
 (pss_cons (ps_set (i := 10) scNaming.nd rfl (Or.inl rfl) (pe_call GColoured hrColoured rfl mColoured kColoured bColoured .nil pass0 (pa_cons (pv 3) (pa_cons (pv 4) (pa_cons (pv 8) (pa_cons (pv 9) pa_nil))))))
 (pss_one (ps_if (pt_cmpR op_notN (pv 10) pe_non (nomark _))
 (pss_cons (ps_if (pt_cmpR op_eq (pe_callB call_len_seq (by rfl) mLen PySem.boot_len (pa_cons (pv 7) pa_nil)) (pv 2) (nomark _))
 (pss_one (ps_ret (pe_callTy call_list_of (by rfl) mList boot_list' (pa_cons (pv 7) pa_nil))))
 pss_nil)
 (pss_one (ps_expr (pe_bm PySem.F.plainAttrs_list PySem.F.slot_list_extend PySem.F.type_list_extend mt_extend (pv 5) (pa_cons (pe_call GFurther hrFurther rfl mFurther kFurther bFurther .nil pass0 (pa_cons (pv 7) (pa_cons (pe_ix ix_tup (pv 10) pe_int (fun _ _ => rfl)) (pa_cons (pe_ix ix_tup (pv 10) pe_int (fun _ _ => rfl)) pa_nil)))) pa_nil)))))
 pss_nil)))))))
 (pss_one (ps_ret pe_non))))))))),
    run_pure h 10 rfl (fun A => (ds_seq (ds_set (dn_meth ioRooms c_call0 dn_var da_nil))
 (ds_seq (ds_if (dt_test (dn_op op_neS (dn_meth ioRooms c_call0 dn_var da_nil) dn_var))
 (ds_ret dn_non)
 ds_next)
 (ds_seq (ds_set (dn_own (do_call0 (da_cons dn_var da_nil))))
 (ds_seq (ds_set (dn_own (do_call0 (da_cons dn_var da_nil))))
 (ds_seq (ds_setO (do_lst (da_cons (dn_tup (da_cons (dn_tup da_nil) (da_cons (dn_own (do_lc (di_range1 (da_cons dn_var da_nil)) dg_name dt_yes (dn_meth ioLeading c_call0 dn_var (da_cons dn_var (da_cons dn_var da_nil))) (by decide))) (da_cons (dn_own (do_lc (di_range1 (da_cons dn_var da_nil)) dg_name dt_yes (dn_meth ioLeading c_call0 dn_var (da_cons dn_var (da_cons dn_var da_nil))) (by decide))) da_nil)))) da_nil)))
 (ds_seq (ds_set dn_int)
 (ds_seq (ds_while (dt_test (dn_op op_b dn_lenOwn dn_int))
 (ds_seq (ds_popL (dg_tup (dgs_cons dg_name (dgs_cons dg_name (dgs_cons dg_name dgs_nil)))))
 (ds_seq (ds_aug dn_int)
 (ds_seq (ds_if (dt_test (dn_op op_b dn_var dn_int))
 ds_never
 ds_next)
 (ds_seq (ds_set (dn_call0 (da_cons dn_var (da_cons dn_var (da_cons dn_var (da_cons dn_var da_nil))))))
 (ds_if (dt_test (dn_op op_notNd dn_var dn_non))
 (ds_seq (ds_if (dt_test (dn_op op_eqS (dn_callB c_len (da_cons dn_var da_nil)) dn_var))
 (ds_ret (dn_own (do_callB c_list (da_cons dn_var da_nil))))
 ds_next)
 (ds_extO (do_call0 (da_cons dn_var (da_cons (dn_op op_ixT dn_var dn_int) (da_cons (dn_op op_ixT dn_var dn_int) da_nil))))))
 ds_next))))))
 (ds_ret dn_non))))))))) (fun ds Q Ex hyp => ?_)⟩
  obtain ⟨n, ps, m, qs, rfl, hG, hG2, hn, hl, hl2, q⟩ := hyp
  have q1 : namL n ps m qs = [] → Q .non := fun z => by unfold naD at q; rw [z] at q; exact q
  have q2 : ∀ r l, namL n ps m qs = r :: l → Q (nlD r) := fun r l z => by unfold naD at q; rw [z] at q; exact q
  dsimp only [gdName]
  refine MS.cut (fun env => env = [.d (webO n ps), .d (webO m qs), .d (natD n), .no, .no, .no, .no, .no, .no, .no, .no, .no]) ?_ ?_
  · exact ⟨_, rfl, _, rfl, n, ps, rfl, rfl⟩
  rintro env rfl
  refine MS.cut (fun env => m = n ∧ env = [.d (webO n ps), .d (webO m qs), .d (natD n), .no, .no, .no, .no, .no, .no, .no, .no, .no]) ?_ ?_
  · refine ⟨_, rfl, _, rfl, m, qs, rfl, _, rfl, ?_⟩
    refine ⟨_, _, rfl, rfl, rfl, _, rfl, ?_⟩
    show (if (!decide (V.int ((m : Nat) : Int) = V.int ((n : Nat) : Int))) = true then _ else _)
    by_cases e : m = n
    · rw [decide_eq_true (by rw [e])]
      exact iteF ⟨e, rfl⟩
    · rw [decide_eq_false (fun z => e (by injection z with z; omega))]
      exact iteT (q1 (by unfold namL; rw [if_neg fun z => e z.1.symm]))
  rintro env ⟨rfl, rfl⟩
  have hP : In2 m ps := hG.2.1
  have hP2 : In2 m qs := hG2.2.1
  refine MS.cut (fun env => env = [.d (webO m ps), .d (webO m qs), .d (natD m), .d (nearD m ps), .no, .no, .no, .no, .no, .no, .no, .no]) ?_ ?_
  · exact ⟨_, rfl, m, ps, rfl, hG, by omega, hl, rfl⟩
  rintro env rfl
  refine MS.cut (fun env => env = [.d (webO m ps), .d (webO m qs), .d (natD m), .d (nearD m ps), .d (nearD m qs), .no, .no, .no, .no, .no, .no, .no]) ?_ ?_
  · exact ⟨_, rfl, m, qs, rfl, hG2, by omega, hl2, rfl⟩
  rintro env rfl
  let s0 : En := ⟨[], (List.range m).map fun x => ps.count (x, x), (List.range m).map fun x => qs.count (x, x)⟩
  refine MS.cut (fun env => ∃ v11, env = [.d (webO m ps), .d (webO m qs), .d (natD m), .d (nearD m ps), .d (nearD m qs), .own ([s0].map enE), .no, .no, .no, .no, .no, v11]) ?_ ?_
  · have ld : ∀ (l : List (Nat × Nat)) (x : Nat), x < m → l = ps ∨ l = qs → mfLeading.wp [webO m l, .int ((x : Nat) : Int), .int ((x : Nat) : Int)] (fun y => y = natD (l.count (x, x))) (fun _ => False) := fun l x hx _ => ⟨m, l, x, x, rfl, hx, hx, rfl⟩
    have lm : m ≤ 1000000 := by omega
    have e1 : ∀ l : List (Nat × Nat), (((List.range ((m : Nat) : Int).toNat).map fun i => D.int ((i : Nat) : Int)).map fun x => match x with | .int i => natD (l.count (i.toNat, i.toNat)) | _ => .non) = ((List.range m).map fun x => l.count (x, x)).map natD := fun l => by
      rw [List.map_map, List.map_map, Int.toNat_natCast]
      rfl
    refine ⟨_, rfl, _, rfl, ⟨by omega, by omega⟩, by rw [List.length_map, List.length_range]; omega, lc_map (fun x => match x with | .int i => natD (ps.count (i.toNat, i.toNat)) | _ => .non) (fun j y hy => ?_) ?_⟩
    · obtain ⟨lt, rfl⟩ := rg_at hy
      rw [Int.toNat_natCast] at lt
      exact ⟨_, rfl, _, rfl, _, rfl, _, rfl, m, ps, j, j, rfl, lt, lt, rfl⟩
    refine ⟨_, rfl, _, rfl, ⟨by omega, by omega⟩, by rw [List.length_map, List.length_range]; omega, lc_map (fun x => match x with | .int i => natD (qs.count (i.toNat, i.toNat)) | _ => .non) (fun j y hy => ?_) ?_⟩
    · obtain ⟨lt, rfl⟩ := rg_at hy
      rw [Int.toNat_natCast] at lt
      exact ⟨_, rfl, _, rfl, _, rfl, _, rfl, m, qs, j, j, rfl, lt, lt, rfl⟩
    rw [e1, e1]
    exact ⟨_, rfl⟩
  rintro env ⟨v11, rfl⟩
  refine MS.cut (fun env => env = [.d (webO m ps), .d (webO m qs), .d (natD m), .d (nearD m ps), .d (nearD m qs), .own ([s0].map enE), .d (natD 0), .no, .no, .no, .no, v11]) ?_ ?_
  · exact rfl
  rintro env rfl
  have ok0 : EnOk m ps qs s0.ns s0.o s0.p := ⟨Nat.zero_le _, by rw [List.length_map, List.length_range], by rw [List.length_map, List.length_range], fun r i _ x hx => by
    have g : ∀ (l : List (Nat × Nat)) (y : Nat), y < m → ((List.range m).map fun x => l.count (x, x)).getD y 0 = l.count (y, y) := fun l y hy => by
      rw [List.getD_eq_getElem?_getD, List.getElem?_map, List.getElem?_range hy]
      rfl
    show ((List.range m).map fun x => ps.count (x, x)).getD x 0 = ((List.range m).map fun x => qs.count (x, x)).getD (r.getD x 0) 0
    rw [g _ _ hx, g _ _ (ord_lt i.o hx), ← oE_count, ← oE_count, (iso_out i hP hx).count_eq, List.count_eq_countP, List.count_eq_countP, List.countP_map]
    refine List.countP_congr fun y hy => ?_
    simp only [Function.comp, beq_iff_eq]
    exact ⟨fun e => by rw [e], fun e => ord_inj i.o (oE_lt hP hy) hx e⟩, fun i x h => by cases h⟩
  refine MS.cut (fun env => namL m ps m qs = [] ∧ ∃ v6 v7 v8 v9 v10 : E1, env = [.d (webO m ps), .d (webO m qs), .d (natD m), .d (nearD m ps), .d (nearD m qs), .own [], v6, v7, v8, v9, v10, v11]) ?_ ?_
  · refine ⟨fun t env => ∃ (st : List En) (k : Nat) (v7 v8 v9 v10 : E1), env = [.d (webO m ps), .d (webO m qs), .d (natD m), .d (nearD m ps), .d (nearD m qs), .own (st.map enE), .d (natD k), v7, v8, v9, v10, v11] ∧ (∀ e ∈ st, EnOk m ps qs e.ns e.o e.p) ∧ namL m ps m qs = (st.reverse.flatMap fun e => gS m ps qs e.ns) ∧ t = wSt m st ∧ k + t ≤ 1957, ⟨_, [s0], 0, _, _, _, _, rfl, fun e he => by rw [List.mem_singleton.mp he]; exact ok0, by rw [namL_gS]; show _ = gS m ps qs [] ++ []; rw [List.append_nil], rfl, by have := wE_six hn; show 0 + (wE (m - 0) + 0) ≤ _; simp; omega⟩, ?_⟩
    rintro t env ⟨st, k, v7, v8, v9, v10, rfl, ok, al, et, lk⟩
    refine ⟨_, rfl, _, rfl, ?_⟩
    have sl := wSt_len m st
    have l5 : ((st.map enE).length : Nat) = st.length := List.length_map _
    rcases List.eq_nil_or_concat st with rfl | ⟨st', e, est⟩
    · rw [show decide ((0 : Int) < ((([] : List En).map enE).length : Nat)) = false from rfl]
      exact iteF ⟨al, _, _, _, _, _, rfl⟩
    rw [List.concat_eq_append] at est
    subst est
    rw [show decide ((0 : Int) < (((st' ++ [e]).map enE).length : Nat)) = true from decide_eq_true (by rw [l5, List.length_append]; simp)]
    refine iteT ?_
    have oke := ok e (List.mem_append_right _ (List.mem_singleton.mpr rfl))
    have okr : ∀ x ∈ st', EnOk m ps qs x.ns x.o x.p := fun x hx => ok x (List.mem_append_left _ hx)
    rw [wSt_app] at et
    have et : t = wSt m st' + wE (m - e.ns.length) := et
    have pe := wE_pos (m - e.ns.length)
    have al : namL m ps m qs = gS m ps qs e.ns ++ (st'.reverse.flatMap fun e => gS m ps qs e.ns) := by
      rw [al, List.reverse_append]
      rfl
    refine MS.cut (fun env => env = [.d (webO m ps), .d (webO m qs), .d (natD m), .d (nearD m ps), .d (nearD m qs), .own (st'.map enE), .d (natD k), .d (.tup (e.ns.map natD)), .d (colD e.o), .d (colD e.p), v10, v11]) ?_ ?_
    · refine ⟨st'.map enE, enE e, by rw [List.map_append]; rfl, _, rfl, rfl, _, _, rfl, _, _, rfl, _, _, rfl, rfl, rfl⟩
    rintro env rfl
    refine MS.cut (fun env => env = [.d (webO m ps), .d (webO m qs), .d (natD m), .d (nearD m ps), .d (nearD m qs), .own (st'.map enE), .d (natD (k + 1)), .d (.tup (e.ns.map natD)), .d (colD e.o), .d (colD e.p), v10, v11]) ?_ ?_
    · exact ⟨_, rfl, _, rfl, rfl⟩
    rintro env rfl
    refine MS.cut (fun env => env = [.d (webO m ps), .d (webO m qs), .d (natD m), .d (nearD m ps), .d (nearD m qs), .own (st'.map enE), .d (natD (k + 1)), .d (.tup (e.ns.map natD)), .d (colD e.o), .d (colD e.p), v10, v11]) ?_ ?_
    · refine ⟨_, rfl, _, rfl, ?_⟩
      rw [show decide ((8000 : Int) < ((k + 1 : Nat) : Int)) = false from decide_eq_false (by omega)]
      exact iteF rfl
    rintro env rfl
    refine MS.cut (fun env => ((gS m ps qs e.ns = [] ∧ env = [.d (webO m ps), .d (webO m qs), .d (natD m), .d (nearD m ps), .d (nearD m qs), .own (st'.map enE), .d (natD (k + 1)), .d (.tup (e.ns.map natD)), .d (colD e.o), .d (colD e.p), .d .non, v11]) ∨ ∃ c d : List Nat, (c.length = m ∧ d.length = m ∧ Ref m ps qs e.o e.p c d ∧ (∀ z, z < m → c.getD z 0 < m) ∧ (∀ z, z < m → d.getD z 0 < m) ∧ (looks m ps e.o).Perm (looks m qs e.p)) ∧ env = [.d (webO m ps), .d (webO m qs), .d (natD m), .d (nearD m ps), .d (nearD m qs), .own (st'.map enE), .d (natD (k + 1)), .d (.tup (e.ns.map natD)), .d (colD e.o), .d (colD e.p), .d (.tup [colD c, colD d]), v11])) ?_ ?_
    · refine ⟨_, rfl, _, rfl, _, rfl, _, rfl, m, ps, qs, e.o, e.p, rfl, hG, hG2, by omega, hl, hl2, oke.lo, oke.lp, fun no => .inl ⟨?_, rfl⟩, fun c d h1 h2 h3 h4 h5 h6 => .inr ⟨c, d, ⟨h1, h2, h3, h4, h5, h6⟩, rfl⟩⟩
      refine List.eq_nil_iff_forall_not_mem.mpr fun r mr => ?_
      obtain ⟨i, s⟩ := gS_mem oke.le oke.ord mr
      exact no r i (oke.keep r i s)
    rintro env (⟨no, rfl⟩ | ⟨c, d, ⟨h1, h2, h3, h4, h5, h6⟩, rfl⟩)
    · refine ⟨_, rfl, rfl, _, rfl, iteF ⟨wSt m st', by omega, st', k + 1, _, _, _, _, rfl, okr, ?_, rfl, by omega⟩⟩
      rw [al, no, List.nil_append]
    · refine ⟨_, rfl, rfl, _, rfl, iteT ?_⟩
      have oc := oke.ref h3 h1 h2
      refine MS.cut (fun env => e.ns.length < m ∧ env = [.d (webO m ps), .d (webO m qs), .d (natD m), .d (nearD m ps), .d (nearD m qs), .own (st'.map enE), .d (natD (k + 1)), .d (.tup (e.ns.map natD)), .d (colD e.o), .d (colD e.p), .d (.tup [colD c, colD d]), v11]) ?_ ?_
      · refine ⟨_, rfl, _, _, rfl, rfl, _, rfl, ?_⟩
        refine ⟨_, _, rfl, rfl, rfl, _, rfl, ?_⟩
        rw [List.length_map]
        show (if decide (V.int ((e.ns.length : Nat) : Int) = V.int ((m : Nat) : Int)) = true then _ else _)
        by_cases c1 : e.ns.length = m
        · rw [decide_eq_true (by rw [c1])]
          refine iteT ?_
          refine ⟨_, rfl, _, _, rfl, rfl, ?_⟩
          have o2 : e.ns ∈ ordS m m := by
            have z := oke.ord
            rwa [c1] at z
          have at_ : ∀ x, x < m → e.ns[x]? = some (e.ns.getD x 0) := fun x hx => by
            rw [List.getD_eq_getElem?_getD, List.getElem?_eq_getElem (by omega)]
            rfl
          have iso := leaf_iso (cs := e.o) (ds := e.p) hP hP2 o2 (fun x hx => (oke.uniq x _ (at_ x hx)).2.1) (fun x hx => (oke.uniq x _ (at_ x hx)).2.2.1) h6
          refine q2 e.ns (st'.reverse.flatMap fun e => gS m ps qs e.ns) ?_
          rw [al, gS_full c1, List.filter_cons_of_pos (show namB ps qs e.ns = true from decide_eq_true iso.p)]
          rfl
        · rw [decide_eq_false (fun z => c1 (by injection z with z; omega))]
          exact iteF ⟨by have := oke.le; omega, rfl⟩
      rintro env ⟨lt, rfl⟩
      let g : Nat → En := fun x => ⟨e.ns ++ [x], c.set e.ns.length m, d.set x m⟩
      have chm : chL e.ns c d = (List.range m).filter fun x => decide (d.getD x 0 = c.getD e.ns.length 0) := by
        unfold chL
        rw [h1]
      have cl := ch_len oc lt h4 h5
      have ws : wSt m ((chL e.ns c d).reverse.map g) = (chL e.ns c d).length * wE (m - (e.ns.length + 1)) := by
        rw [wSt_all (k := e.ns.length + 1) fun x hx => by
          obtain ⟨y, _, rfl⟩ := List.mem_map.mp hx
          exact List.length_append, List.length_map, List.length_reverse]
      have we : wE (m - e.ns.length) = 1 + (m - e.ns.length) * wE (m - (e.ns.length + 1)) := by
        obtain ⟨j, hj⟩ : ∃ j, m - e.ns.length = j + 1 := ⟨m - e.ns.length - 1, by omega⟩
        rw [hj, show m - (e.ns.length + 1) = j by omega]
        rfl
      have wl : (chL e.ns c d).length * wE (m - (e.ns.length + 1)) ≤ (m - e.ns.length) * wE (m - (e.ns.length + 1)) := Nat.mul_le_mul_right _ (by rw [chm]; exact cl)
      have all : wSt m (st' ++ (chL e.ns c d).reverse.map g) < t := by
        rw [wSt_app, ws]
        omega
      have sl2 := wSt_len m (st' ++ (chL e.ns c d).reverse.map g)
      refine ⟨_, rfl, _, rfl, _, rfl, _, _, _, rfl, rfl, rfl, _, rfl, _, _, _, rfl, rfl, rfl, _, e.ns, c, d, rfl, rfl, by omega, by omega, by omega, ?_⟩
      have em : (chL e.ns c d).reverse.map (furD e.ns c d) = ((chL e.ns c d).reverse.map g).map enE := by
        rw [List.map_map]
        refine List.map_congr_left fun x _ => ?_
        show furD e.ns c d x = enE (g x)
        unfold furD enE colD
        rw [h1]
      rw [em]
      refine ⟨by rw [← List.length_append, ← List.map_append, List.length_map]; omega, _, all, st' ++ (chL e.ns c d).reverse.map g, k + 1, _, _, _, _, by rw [List.map_append]; rfl, fun x hx => ?_, ?_, rfl, by omega⟩
      · rcases List.mem_append.mp hx with hx | hx
        · exact okr x hx
        · obtain ⟨y, hy, rfl⟩ := List.mem_map.mp hx
          have hy := List.mem_reverse.mp hy
          rw [chm] at hy
          obtain ⟨m1, m2⟩ := List.mem_filter.mp hy
          exact (oc.go lt h4 h5 (List.mem_range.mp m1) (of_decide_eq_true m2)).2
      · rw [al, gS_next oc lt h4 h5, List.reverse_append, ← List.map_reverse, List.reverse_reverse, List.flatMap_append, List.flatMap_map, chm]
  rintro env ⟨no, v6, v7, v8, v9, v10, rfl⟩
  exact q1 no
end
end KD
set_option Elab.async false
set_option linter.all false
set_option maxRecDepth 100000
set_option maxHeartbeats 4000000
namespace KD
open PySem PySem.Spec PyProof.Rows L2 KW KC
def wT (n : Nat) (ps : List (Nat × Nat)) : D := .tup [.int n, .tup (ps.map prD)]
theorem wAs_c {w : D} {n : Nat} {ps : List (Nat × Nat)} (h : wAs w n ps) : w = wD n ps ∨ w = wT n ps := by
  obtain ⟨e, rfl, he⟩ := h
  cases e <;> cases he
  · exact .inr rfl
  · exact .inl rfl
def mfLawNamingA : MF where
  n := 1
  wp := fun ds Q _ => ∃ (w : D) (n : Nat) (ps : List (Nat × Nat)), ds = [w] ∧ wAs w n ps ∧ n ≤ 500 ∧ ps.length ≤ 500 ∧ ∀ rs is : List Nat, rs.Perm (List.range n) → is.Perm (List.range ps.length) → Q (.tup [.lst (rs.map natD), .lst (is.map natD)])
  mono := fun h _ ⟨w, n, ps, a, a2, b, c, q⟩ => ⟨w, n, ps, a, a2, b, c, fun rs is x y => h _ (q rs is x y)⟩
  len := fun ⟨w, n, ps, a, _⟩ => by rw [a]; rfl
def mfLawNamedA : MF where
  n := 3
  wp := fun ds Q _ => ∃ (w : D) (n : Nat) (ps : List (Nat × Nat)) (rs is : List Nat), ds = [w, .lst (rs.map natD), .lst (is.map natD)] ∧ wAs w n ps ∧ Good n ps ∧ n ≤ 100 ∧ ps.length ≤ 400 ∧ rs.Perm (List.range n) ∧ is.Perm (List.range ps.length) ∧ Q (wD n (namP ps rs is))
  mono := fun h _ ⟨w, n, ps, rs, is, a, a2, b, c, d, e, f, q⟩ => ⟨w, n, ps, rs, is, a, a2, b, c, d, e, f, h _ q⟩
  len := fun ⟨w, n, ps, rs, is, a, _⟩ => by rw [a]; rfl
def mfLawNamingsA : MFO where
  n := 2
  wp := fun ds Q _ => ∃ (w : D) (n : Nat) (ps : List (Nat × Nat)) (m : Nat) (qs : List (Nat × Nat)), ds = [w, wD m qs] ∧ wAs w n ps ∧ In2 n ps ∧ n ≤ 6 ∧ ps.length ≤ 1000 ∧ Q ((namL n ps m qs).map nlD)
  mono := fun h _ ⟨w, n, ps, m, qs, a, a2, b, c, d, q⟩ => ⟨w, n, ps, m, qs, a, a2, b, c, d, h _ q⟩
  len := fun ⟨w, n, ps, m, qs, a, _⟩ => by rw [a]; rfl
section
variable {P : Program} {w : World} {K : PySem.W.Frag} {mg : Str → Option Value} {base : Heap} {Ω : Obs}
theorem cal_LawNamingA {f : Addr} {fd : FuncData} (F : Fun K "_law_naming" "_law_naming" sLawNaming f fd) (b : Binds K fd ["_law_bag_here", "_law_w"] []) (m : mg "_law_naming" = some (.ref f)) (k : PySem.W.keepIn K (.ref f) = true) (cLawMixed : Cal P w K mg base CX0 2 "_law_mixed" ["_law_bag_here", "_law_some"] (spBO Ω mfMixed)) (mLen : mg "len" = none) (mList : mg "list" = none) (mRange : mg "range" = none) :
    Cal P w K mg base CX0 3 "_law_naming" ["_law_bag_here", "_law_w"] (spB Ω mfLawNamingA) := by
  refine ⟨f, fd, F.ok scLawNaming (fun vs H Q E h => spB_len h) (fun cdv A outer s H vs Q E hr h => ?_), b, m, k⟩
  obtain ⟨fLawMixed, fdLawMixed, GLawMixed, bLawMixed, mLawMixed, kLawMixed⟩ := cLawMixed
  have hrLawMixed : Room 2 _ := hr.mono (by decide)
  refine ⟨_, (pss_one (ps_ret (pe_tup (pa_cons (pe_call GLawMixed hrLawMixed rfl mLawMixed kLawMixed bLawMixed .nil pass0 (pa_cons (pv 0) (pa_cons (pe_listRg rfl (by rfl) mList (prg_1 (by rfl) mRange (pe_ix ix_tup (pv 1) pe_int (fun _ _ => rfl)))) pa_nil))) (pa_cons (pe_call GLawMixed hrLawMixed rfl mLawMixed kLawMixed bLawMixed .nil pass0 (pa_cons (pv 0) (pa_cons (pe_listRg rfl (by rfl) mList (prg_1 (by rfl) mRange (pe_callB call_len_seq (by rfl) mLen PySem.boot_len (pa_cons (pe_ix ix_tup (pv 1) pe_int (fun _ _ => rfl)) pa_nil)))) pa_nil))) pa_nil))))),
    run_bag h 0 rfl (fun A b l ns B => (ds_ret (dn_tup (da_cons (dn_own (do_bag B (da_cons (dn_own (do_lstRg (dn_op op_ixT dn_var dn_int))) da_nil))) (da_cons (dn_own (do_bag B (da_cons (dn_own (do_lstRg (dn_callB c_len (da_cons (dn_op op_ixT dn_var dn_int) da_nil)))) da_nil))) da_nil))))) (fun ds Q hyp => ?_)⟩
  obtain ⟨w, n, ps, rfl, hw, hn, hl, q⟩ := hyp
  rcases wAs_c hw with rfl | rfl
  · refine ⟨rfl, _, rfl, _, _, _, rfl, rfl, rfl, n, rfl, by omega, _, rfl, by rw [List.length_map, List.length_range]; omega, fun ys p1 => ⟨rfl, _, rfl, _, _, _, rfl, rfl, rfl, _, _, rfl, rfl, ps.length, by rw [List.length_map], by omega, _, rfl, by rw [List.length_map, List.length_range]; omega, fun zs p2 => ?_⟩⟩
    obtain ⟨rs, rfl, hr⟩ := perm_natD p1
    obtain ⟨is, rfl, hi⟩ := perm_natD p2
    exact q rs is hr hi
  · refine ⟨rfl, _, rfl, _, _, _, rfl, rfl, rfl, n, rfl, by omega, _, rfl, by rw [List.length_map, List.length_range]; omega, fun ys p1 => ⟨rfl, _, rfl, _, _, _, rfl, rfl, rfl, _, _, rfl, rfl, ps.length, by rw [List.length_map], by omega, _, rfl, by rw [List.length_map, List.length_range]; omega, fun zs p2 => ?_⟩⟩
    obtain ⟨rs, rfl, hr⟩ := perm_natD p1
    obtain ⟨is, rfl, hi⟩ := perm_natD p2
    exact q rs is hr hi
theorem cal_LawNamedA {f : Addr} {fd : FuncData} (F : Fun K "_law_named" "_law_named" sLawNamed f fd) (b : Binds K fd ["_law_w", "_law_rooms", "_law_arrows"] []) (m : mg "_law_named" = some (.ref f)) (k : PySem.W.keepIn K (.ref f) = true) (mEnum : mg "enumerate" = none) (mLen : mg "len" = none) (mTuple : mg "tuple" = none) :
    Cal P w K mg base CX0 1 "_law_named" ["_law_w", "_law_rooms", "_law_arrows"] (spD Ω mfLawNamedA) := by
  refine ⟨f, fd, F.ok scLawNamed (fun vs H Q E h => spD_len h) (fun cdv A outer s H vs Q E hr h => ?_), b, m, k⟩
  refine ⟨_, (pss_cons (ps_set (i := 3) scLawNamed.nd rfl (Or.inl rfl) (pe_op op_rep (pe_lst (pa_cons (pe_tup (pa_cons pe_int (pa_cons pe_int pa_nil))) pa_nil)) (pe_callB call_len_seq (by rfl) mLen PySem.boot_len (pa_cons (pe_ix ix_tup (pv 0) pe_int (fun _ _ => rfl)) pa_nil))))
 (pss_cons (ps_for PassesOwn.never rfl (pi_enT (by rfl) mEnum (pa_cons (pe_ix ix_tup (pv 0) pe_int (fun _ _ => rfl)) pa_nil)) (pg_tup rfl (pgs_cons (pg_name (i := 4) scLawNamed.nd rfl (Or.inl rfl)) (pgs_cons (pg_name (i := 5) scLawNamed.nd rfl (Or.inl rfl)) pgs_nil)))
 (pss_one (ps_asg (pe_tup (pa_cons (pe_ix ix_list (pv 1) (pe_ix ix_tup (pv 5) pe_int (fun _ _ => rfl)) (fun _ _ => rfl)) (pa_cons (pe_ix ix_list (pv 1) (pe_ix ix_tup (pv 5) pe_int (fun _ _ => rfl)) (fun _ _ => rfl)) pa_nil))) (pg_sub (pv 3) (pe_ix ix_list (pv 2) (pv 4) (fun _ _ => rfl)) set_list))))
 (pss_one (ps_ret (pe_tup (pa_cons (pe_ix ix_tup (pv 0) pe_int (fun _ _ => rfl)) (pa_cons (pe_callTy call_tupleF (by rfl) mTuple boot_tuple' (pa_cons (pv 3) pa_nil)) pa_nil))))))),
    run_pure h 3 rfl (fun A => (ds_seq (ds_setO (do_op op_repO (dn_own (do_lst (da_cons (dn_tup (da_cons dn_int (da_cons dn_int da_nil))) da_nil))) (dn_callB c_len (da_cons (dn_op op_ixT dn_var dn_int) da_nil))))
 (ds_seq (ds_for (di_enT (da_cons (dn_op op_ixT dn_var dn_int) da_nil)) (dg_tup (dgs_cons dg_name (dgs_cons dg_name dgs_nil)))
 (ds_setAt (dn_tup (da_cons (dn_op op_ixL dn_var (dn_op op_ixT dn_var dn_int)) (da_cons (dn_op op_ixL dn_var (dn_op op_ixT dn_var dn_int)) da_nil))) (dn_op op_ixL dn_var dn_var)))
 (ds_frz (i := 3) (ds_ret (dn_tup (da_cons (dn_op op_ixT dn_var dn_int) (da_cons (dn_callB c_tupF (da_cons dn_var da_nil)) da_nil)))))))) (fun ds Q Ex hyp => ?_)⟩
  obtain ⟨w, n, ps, rm, im, rfl, hw, hG, hn, hl, pr, pi, q⟩ := hyp
  rcases wAs_c hw with rfl | rfl
  · have len : im.length = ps.length := by rw [pi.length_eq, List.length_range]
    have lenr : rm.length = n := by rw [pr.length_eq, List.length_range]
    dsimp only [gdName]
    refine MS.cut (fun env => ∃ xs : List D, env = [.d (wD n ps), .d (.lst (rm.map natD)), .d (.lst (im.map natD)), .own xs, .no, .no] ∧ xs.length = ps.length) ?_ ?_
    · refine ⟨_, rfl, _, 1, _, rfl, rfl, rfl, _, _, rfl, rfl, _, ps.length, rfl, by rw [List.length_map], by omega, by decide, _, rfl, ?_⟩
      simp
    rintro env ⟨xs0, rfl, l0⟩
    refine MS.cut (fun env => ∃ (xs : List D) (e4 e5 : E1), env = [.d (wD n ps), .d (.lst (rm.map natD)), .d (.lst (im.map natD)), .own xs, e4, e5] ∧ NamTo ps rm im ps.length xs) ?_ ?_
    · refine ⟨_, rfl, _, 1, _, rfl, rfl, rfl, _, _, rfl, rfl, ?_⟩
      refine ⟨fun i env => ∃ (xs : List D) (e4 e5 : E1), env = [.d (wD n ps), .d (.lst (rm.map natD)), .d (.lst (im.map natD)), .own xs, e4, e5] ∧ NamTo ps rm im i xs, ⟨xs0, _, _, rfl, l0, fun a h => absurd h (Nat.not_lt_zero _)⟩, ?_, ?_⟩
      · rintro i x env hx ⟨xs, e4, e5, rfl, lx, inv⟩
        obtain ⟨y, hy, rfl⟩ := enum_at hx
        obtain ⟨p, hp, rfl⟩ := map_at hy
        have hi : i < ps.length := (List.getElem?_eq_some_iff.mp hp).1
        have hpg := hG.2.1 p (List.mem_of_getElem? hp)
        have ep : ps.getD i (0, 0) = p := by rw [List.getD_eq_getElem?_getD, hp]; rfl
        refine ⟨_, rfl, rfl, _, _, rfl, _, _, rfl, rfl, xs, rfl, ?_⟩
        refine ⟨_, rfl, _, rfl, _, 0, _, rfl, rfl, rfl, _, _, _, rfl, rfl, at_nat (mapD_at (by omega)), ?_⟩
        refine ⟨_, rfl, _, rfl, _, 1, _, rfl, rfl, rfl, _, _, _, rfl, rfl, at_nat (mapD_at (by omega)), ?_⟩
        refine ⟨_, rfl, _, rfl, _, _, _, rfl, rfl, at_nat (mapD_at (by omega)), im.getD i 0, rfl, ?_, _, _, _, rfl, ?_⟩
        · rw [lx]
          exact im_lt pi (by omega)
        · have z := namTo_step (rm := rm) pi hi ⟨lx, inv⟩
          rw [ep] at z
          exact z
      · rintro env ⟨xs, e4, e5, rfl, h⟩
        refine ⟨xs, e4, e5, rfl, ?_⟩
        rw [enumD_len, List.length_map] at h
        exact h
    rintro env ⟨xs, e4, e5, rfl, h⟩
    have z := namTo_all pi h
    subst z
    exact ⟨_, rfl, rfl, _, rfl, _, 0, _, rfl, rfl, rfl, _, rfl, _, rfl, q⟩
  · have len : im.length = ps.length := by rw [pi.length_eq, List.length_range]
    have lenr : rm.length = n := by rw [pr.length_eq, List.length_range]
    dsimp only [gdName]
    refine MS.cut (fun env => ∃ xs : List D, env = [.d (wT n ps), .d (.lst (rm.map natD)), .d (.lst (im.map natD)), .own xs, .no, .no] ∧ xs.length = ps.length) ?_ ?_
    · refine ⟨_, rfl, _, 1, _, rfl, rfl, rfl, _, _, rfl, rfl, _, ps.length, rfl, by rw [List.length_map], by omega, by decide, _, rfl, ?_⟩
      simp
    rintro env ⟨xs0, rfl, l0⟩
    refine MS.cut (fun env => ∃ (xs : List D) (e4 e5 : E1), env = [.d (wT n ps), .d (.lst (rm.map natD)), .d (.lst (im.map natD)), .own xs, e4, e5] ∧ NamTo ps rm im ps.length xs) ?_ ?_
    · refine ⟨_, rfl, _, 1, _, rfl, rfl, rfl, _, _, rfl, rfl, ?_⟩
      refine ⟨fun i env => ∃ (xs : List D) (e4 e5 : E1), env = [.d (wT n ps), .d (.lst (rm.map natD)), .d (.lst (im.map natD)), .own xs, e4, e5] ∧ NamTo ps rm im i xs, ⟨xs0, _, _, rfl, l0, fun a h => absurd h (Nat.not_lt_zero _)⟩, ?_, ?_⟩
      · rintro i x env hx ⟨xs, e4, e5, rfl, lx, inv⟩
        obtain ⟨y, hy, rfl⟩ := enum_at hx
        obtain ⟨p, hp, rfl⟩ := map_at hy
        have hi : i < ps.length := (List.getElem?_eq_some_iff.mp hp).1
        have hpg := hG.2.1 p (List.mem_of_getElem? hp)
        have ep : ps.getD i (0, 0) = p := by rw [List.getD_eq_getElem?_getD, hp]; rfl
        refine ⟨_, rfl, rfl, _, _, rfl, _, _, rfl, rfl, xs, rfl, ?_⟩
        refine ⟨_, rfl, _, rfl, _, 0, _, rfl, rfl, rfl, _, _, _, rfl, rfl, at_nat (mapD_at (by omega)), ?_⟩
        refine ⟨_, rfl, _, rfl, _, 1, _, rfl, rfl, rfl, _, _, _, rfl, rfl, at_nat (mapD_at (by omega)), ?_⟩
        refine ⟨_, rfl, _, rfl, _, _, _, rfl, rfl, at_nat (mapD_at (by omega)), im.getD i 0, rfl, ?_, _, _, _, rfl, ?_⟩
        · rw [lx]
          exact im_lt pi (by omega)
        · have z := namTo_step (rm := rm) pi hi ⟨lx, inv⟩
          rw [ep] at z
          exact z
      · rintro env ⟨xs, e4, e5, rfl, h⟩
        refine ⟨xs, e4, e5, rfl, ?_⟩
        rw [enumD_len, List.length_map] at h
        exact h
    rintro env ⟨xs, e4, e5, rfl, h⟩
    have z := namTo_all pi h
    subst z
    exact ⟨_, rfl, rfl, _, rfl, _, 0, _, rfl, rfl, rfl, _, rfl, _, rfl, q⟩
theorem cal_LawNamingsA {f : Addr} {fd : FuncData} (F : Fun K "_law_namings" "_law_namings" sLawNamings f fd) (b : Binds K fd ["_law_w", "_law_v"] []) (m : mg "_law_namings" = some (.ref f)) (k : PySem.W.keepIn K (.ref f) = true) (cLawOrders : Cal P w K mg base CX0 1 "_law_orders" ["_law_many"] (spD Ω mfLawOrders)) (mLen : mg "len" = none) (mList : mg "list" = none) (mSorted : mg "sorted" = none) :
    Cal P w K mg base CX0 2 "_law_namings" ["_law_w", "_law_v"] (spO Ω mfLawNamingsA) := by
  refine ⟨f, fd, F.ok scLawNamings (fun vs H Q E h => spO_len h) (fun cdv A outer s H vs Q E hr h => ?_), b, m, k⟩
  obtain ⟨fLawOrders, fdLawOrders, GLawOrders, bLawOrders, mLawOrders, kLawOrders⟩ := cLawOrders
  have hrLawOrders : Room 1 _ := hr.mono (by decide)
  refine ⟨_, (pss_cons (ps_if (PW.pt (pw_or (pt_cmpR op_ne (pe_ix ix_tup (pv 0) pe_int (fun _ _ => rfl)) (pe_ix ix_tup (pv 1) pe_int (fun _ _ => rfl)) (nomark _)) (pw_or1 (pt_cmpR op_ne (pe_callB call_len_seq (by rfl) mLen PySem.boot_len (pa_cons (pe_ix ix_tup (pv 0) pe_int (fun _ _ => rfl)) pa_nil)) (pe_callB call_len_seq (by rfl) mLen PySem.boot_len (pa_cons (pe_ix ix_tup (pv 1) pe_int (fun _ _ => rfl)) pa_nil)) (nomark _)))))
 (pss_one (ps_ret (pe_lst pa_nil)))
 pss_nil)
 (pss_cons (ps_set (i := 2) scLawNamings.nd rfl (Or.inl rfl) (pe_lst pa_nil))
 (pss_cons (ps_for PassesOwn.never rfl (pi_list (pe_call GLawOrders hrLawOrders rfl mLawOrders kLawOrders bLawOrders .nil pass0 (pa_cons (pe_ix ix_tup (pv 0) pe_int (fun _ _ => rfl)) pa_nil))) (pg_name (i := 3) scLawNamings.nd rfl (Or.inr rfl))
 (pss_one (ps_if (pt_cmpR (op_eqD hr.units) (pe_callB (cr_sortPSK (K := K) rfl) (by rfl) mSorted (by decide +kernel) (pa_cons (pe_lc (own := [("_law_begin", 4), ("_law_end", 5)]) (g := (gTup K 2 (gCons (gName 4) (gCons (gName 5) gNil)))) (tt := tYes) rfl scLawNamings.nd (pi_tup (pe_ix ix_tup (pv 0) pe_int (fun _ _ => rfl))) (blkOk_by (own := [("_law_begin", 4), ("_law_end", 5)]) (N := nLawNamings) (sc := defScope sLawNamings) (by decide +kernel)) (fun _ _ _ _ _ => (pg_tup rfl (pgs_cons (pg_name (i := 4) scLawNamings.nd rfl (Or.inl rfl)) (pgs_cons (pg_name (i := 5) scLawNamings.nd rfl (Or.inl rfl)) pgs_nil)))) (fun _ _ _ _ _ => pts_nil) (fun _ _ _ _ _ => (pe_tup (pa_cons (pe_ix (ix_tupK (K := K) rfl) (pv 3) (pv 4) (fun _ _ => rfl)) (pa_cons (pe_ix (ix_tupK (K := K) rfl) (pv 3) (pv 5) (fun _ _ => rfl)) pa_nil))))) pa_nil)) (pe_callB (cr_sortPSK (K := K) rfl) (by rfl) mSorted (by decide +kernel) (pa_cons (pe_ix ix_tup (pv 1) pe_int (fun _ _ => rfl)) pa_nil)) (nomark _))
 (pss_one (ps_expr (pe_bm PySem.F.plainAttrs_list PySem.F.slot_list_append PySem.F.type_list_append mt_append (pv 2) (pa_cons (pe_callTy call_list_of (by rfl) mList boot_list' (pa_cons (pv 3) pa_nil)) pa_nil))))
 pss_nil)))
 (pss_one (ps_ret (pv 2)))))),
    run_pureO h 4 rfl (fun A => (ds_seq (ds_if (dt_or (dt_test (dn_op op_neS (dn_op op_ixT dn_var dn_int) (dn_op op_ixT dn_var dn_int))) (dt_test (dn_op op_neS (dn_callB c_len (da_cons (dn_op op_ixT dn_var dn_int) da_nil)) (dn_callB c_len (da_cons (dn_op op_ixT dn_var dn_int) da_nil)))))
 (ds_retO (do_lst da_nil))
 ds_next)
 (ds_seq (ds_setO (do_lst da_nil))
 (ds_seq (ds_for (di_list (dn_call0 (da_cons (dn_op op_ixT dn_var dn_int) da_nil))) dg_name
 (ds_if (dt_test (dn_op op_eqd (dn_own (do_callB c_sortPS (da_cons (dn_own (do_lc (di_tup (dn_op op_ixT dn_var dn_int)) (dg_tup (dgs_cons dg_name (dgs_cons dg_name dgs_nil))) dt_yes (dn_tup (da_cons (dn_op op_ixT dn_var dn_var) (da_cons (dn_op op_ixT dn_var dn_var) da_nil))) (by decide))) da_nil))) (dn_own (do_callB c_sortPS (da_cons (dn_op op_ixT dn_var dn_int) da_nil)))))
 (ds_app (dn_own (do_callB c_list (da_cons dn_var da_nil))))
 ds_next))
 ds_retV)))) (fun ds Q Ex hyp => ?_)⟩
  obtain ⟨w, n, ps, m, qs, rfl, hw, h2, hn, hl, q⟩ := hyp
  rcases wAs_c hw with rfl | rfl
  · have nq : (not (decide (V.int (n : Int) = V.int (m : Int)))) = decide (n ≠ m) := by
      by_cases e : n = m
      · subst e
        simp
      · rw [decide_eq_false (fun z => e (by injection z with z; omega)), decide_eq_true e]
        rfl
    have lq : (not (decide (V.int (ps.length : Int) = V.int (qs.length : Int)))) = decide (ps.length ≠ qs.length) := by
      by_cases e : ps.length = qs.length
      · rw [e]
        simp
      · rw [decide_eq_false (fun z => e (by injection z with z; omega)), decide_eq_true e]
        rfl
    refine ⟨_, rfl, _, _, _, rfl, rfl, rfl, _, rfl, _, _, _, rfl, rfl, rfl, _, _, rfl, rfl, rfl, _, rfl, ?_⟩
    rw [nq]
    by_cases c1 : n = m
    · rw [decide_eq_false (fun z => z c1)]
      refine ⟨_, rfl, _, _, _, rfl, rfl, rfl, _, _, rfl, rfl, _, rfl, _, _, _, rfl, rfl, rfl, _, _, rfl, rfl, _, _, rfl, rfl, rfl, _, rfl, ?_⟩
      rw [List.length_map, List.length_map, lq]
      by_cases c2 : ps.length = qs.length
      · rw [decide_eq_false (fun z => z c2)]
        subst c1
        have q : Q (((ordS n n).filter (namB ps qs)).map nlD) := by
          have e : namL n ps n qs = (ordS n n).filter (namB ps qs) := by
            unfold namL
            rw [if_pos ⟨rfl, c2⟩]
          rw [← e]
          exact q
        refine ⟨_, rfl, _, _, _, rfl, rfl, rfl, n, rfl, hn, _, rfl, fun i env => ∃ v3 v4 v5 : E1, env = [.d (wD n ps), .d (wD n qs), .own ((((ordS n n).take i).filter (namB ps qs)).map nlD), v3, v4, v5], ⟨_, _, _, rfl⟩, ?_, ?_⟩
        · rintro i x env hx ⟨v3, v4, v5, rfl⟩
          obtain ⟨r, hr, rfl⟩ := map_at hx
          obtain ⟨lr, _, br⟩ := ordS_mem.mp (List.mem_of_getElem? hr)
          have nxt : (((ordS n n).take (i + 1)).filter (namB ps qs)) = (((ordS n n).take i).filter (namB ps qs)) ++ ([r].filter (namB ps qs)) := by
            rw [List.take_succ, hr, List.filter_append]
            rfl
          have at_ : ∀ x, x < n → atI (r.map natD) ((x : Nat) : Int) = some (natD (r.getD x 0)) := fun x hx => by
            refine at_map ?_
            rw [List.getD_eq_getElem?_getD, List.getElem?_eq_getElem (show x < r.length by omega)]
            rfl
          have ipr : ∀ l : List (Nat × Nat), l.map prD = (l.map intP).map ipD := fun l => by
            rw [List.map_map]
            rfl
          refine ⟨_, rfl, _, _, _, rfl, rfl, rfl, _, rfl, by rw [List.length_map]; omega, lc_map (fun x => match x with | .tup [.int b, .int e] => prD (namF r (b.toNat, e.toNat)) | _ => .non) (fun t y hy => ?_) ?_⟩
          · obtain ⟨p, hp, rfl⟩ := map_at hy
            have l := h2 p (List.mem_of_getElem? hp)
            refine ⟨_, rfl, rfl, _, _, rfl, _, _, rfl, rfl, ?_⟩
            exact ⟨_, rfl, _, rfl, _, _, _, rfl, rfl, at_ _ l.1, _, rfl, _, rfl, _, _, _, rfl, rfl, at_ _ l.2, rfl⟩
          have e1 : (ps.map prD).map (fun x => match x with | .tup [.int b, .int e] => prD (namF r (b.toNat, e.toNat)) | _ => .non) = ((ps.map (namF r)).map intP).map ipD := by
            rw [List.map_map, List.map_map, List.map_map]
            rfl
          rw [e1]
          refine ⟨_, (ps.map (namF r)).map intP, rfl, rfl, fun s1 p1 w1 => ?_⟩
          refine ⟨_, rfl, _, _, _, rfl, rfl, rfl, _, qs.map intP, rfl, by show some (qs.map prD) = _; rw [ipr], fun s2 p2 w2 => ?_⟩
          dsimp only [M.ret]
          refine eqd_prs (f := id) (l := s1) (m := s2) ⟨_, rfl, ?_⟩
          have iff : s1 = s2 ↔ (ps.map (namF r)).Perm qs := by
            rw [← intP_perm]
            exact ⟨fun e => p1.symm.trans (e ▸ p2), fun e => lex_one (p1.trans (e.trans p2.symm)) w1 w2⟩
          have few : (((ordS n n).take i).filter (namB ps qs)).length ≤ 46656 := by
            refine Nat.le_trans (List.length_filter_le _ _) (Nat.le_trans ?_ (ordS_six (n := n) (k := n) hn hn))
            rw [List.length_take]
            exact Nat.min_le_right _ _
          by_cases c3 : s1 = s2
          · rw [decide_eq_true c3]
            refine ⟨_, rfl, _, rfl, _, _, rfl, rfl, by rw [List.length_map]; omega, .d (rowD r), v4, v5, ?_⟩
            rw [nxt, List.filter_cons_of_pos (by exact decide_eq_true (iff.mp c3)), List.map_append]
            rfl
          · rw [decide_eq_false c3]
            refine ⟨.d (rowD r), v4, v5, ?_⟩
            rw [nxt, List.filter_cons_of_neg (by intro z; exact c3 (iff.mpr (of_decide_eq_true z)))]
            rw [List.filter_nil, List.append_nil]
            rfl
        · rintro env ⟨v3, v4, v5, rfl⟩
          rw [List.length_map, List.take_length]
          exact ⟨_, rfl, q⟩
      · rw [decide_eq_true c2]
        have e : namL n ps m qs = [] := by
          unfold namL
          rw [if_neg fun z => c2 z.2]
        rw [e] at q
        exact q
    · rw [decide_eq_true c1]
      have e : namL n ps m qs = [] := by
        unfold namL
        rw [if_neg fun z => c1 z.1]
      rw [e] at q
      exact q
  · have nq : (not (decide (V.int (n : Int) = V.int (m : Int)))) = decide (n ≠ m) := by
      by_cases e : n = m
      · subst e
        simp
      · rw [decide_eq_false (fun z => e (by injection z with z; omega)), decide_eq_true e]
        rfl
    have lq : (not (decide (V.int (ps.length : Int) = V.int (qs.length : Int)))) = decide (ps.length ≠ qs.length) := by
      by_cases e : ps.length = qs.length
      · rw [e]
        simp
      · rw [decide_eq_false (fun z => e (by injection z with z; omega)), decide_eq_true e]
        rfl
    refine ⟨_, rfl, _, _, _, rfl, rfl, rfl, _, rfl, _, _, _, rfl, rfl, rfl, _, _, rfl, rfl, rfl, _, rfl, ?_⟩
    rw [nq]
    by_cases c1 : n = m
    · rw [decide_eq_false (fun z => z c1)]
      refine ⟨_, rfl, _, _, _, rfl, rfl, rfl, _, _, rfl, rfl, _, rfl, _, _, _, rfl, rfl, rfl, _, _, rfl, rfl, _, _, rfl, rfl, rfl, _, rfl, ?_⟩
      rw [List.length_map, List.length_map, lq]
      by_cases c2 : ps.length = qs.length
      · rw [decide_eq_false (fun z => z c2)]
        subst c1
        have q : Q (((ordS n n).filter (namB ps qs)).map nlD) := by
          have e : namL n ps n qs = (ordS n n).filter (namB ps qs) := by
            unfold namL
            rw [if_pos ⟨rfl, c2⟩]
          rw [← e]
          exact q
        refine ⟨_, rfl, _, _, _, rfl, rfl, rfl, n, rfl, hn, _, rfl, fun i env => ∃ v3 v4 v5 : E1, env = [.d (wT n ps), .d (wD n qs), .own ((((ordS n n).take i).filter (namB ps qs)).map nlD), v3, v4, v5], ⟨_, _, _, rfl⟩, ?_, ?_⟩
        · rintro i x env hx ⟨v3, v4, v5, rfl⟩
          obtain ⟨r, hr, rfl⟩ := map_at hx
          obtain ⟨lr, _, br⟩ := ordS_mem.mp (List.mem_of_getElem? hr)
          have nxt : (((ordS n n).take (i + 1)).filter (namB ps qs)) = (((ordS n n).take i).filter (namB ps qs)) ++ ([r].filter (namB ps qs)) := by
            rw [List.take_succ, hr, List.filter_append]
            rfl
          have at_ : ∀ x, x < n → atI (r.map natD) ((x : Nat) : Int) = some (natD (r.getD x 0)) := fun x hx => by
            refine at_map ?_
            rw [List.getD_eq_getElem?_getD, List.getElem?_eq_getElem (show x < r.length by omega)]
            rfl
          have ipr : ∀ l : List (Nat × Nat), l.map prD = (l.map intP).map ipD := fun l => by
            rw [List.map_map]
            rfl
          refine ⟨_, rfl, _, _, _, rfl, rfl, rfl, _, rfl, by rw [List.length_map]; omega, lc_map (fun x => match x with | .tup [.int b, .int e] => prD (namF r (b.toNat, e.toNat)) | _ => .non) (fun t y hy => ?_) ?_⟩
          · obtain ⟨p, hp, rfl⟩ := map_at hy
            have l := h2 p (List.mem_of_getElem? hp)
            refine ⟨_, rfl, rfl, _, _, rfl, _, _, rfl, rfl, ?_⟩
            exact ⟨_, rfl, _, rfl, _, _, _, rfl, rfl, at_ _ l.1, _, rfl, _, rfl, _, _, _, rfl, rfl, at_ _ l.2, rfl⟩
          have e1 : (ps.map prD).map (fun x => match x with | .tup [.int b, .int e] => prD (namF r (b.toNat, e.toNat)) | _ => .non) = ((ps.map (namF r)).map intP).map ipD := by
            rw [List.map_map, List.map_map, List.map_map]
            rfl
          rw [e1]
          refine ⟨_, (ps.map (namF r)).map intP, rfl, rfl, fun s1 p1 w1 => ?_⟩
          refine ⟨_, rfl, _, _, _, rfl, rfl, rfl, _, qs.map intP, rfl, by show some (qs.map prD) = _; rw [ipr], fun s2 p2 w2 => ?_⟩
          dsimp only [M.ret]
          refine eqd_prs (f := id) (l := s1) (m := s2) ⟨_, rfl, ?_⟩
          have iff : s1 = s2 ↔ (ps.map (namF r)).Perm qs := by
            rw [← intP_perm]
            exact ⟨fun e => p1.symm.trans (e ▸ p2), fun e => lex_one (p1.trans (e.trans p2.symm)) w1 w2⟩
          have few : (((ordS n n).take i).filter (namB ps qs)).length ≤ 46656 := by
            refine Nat.le_trans (List.length_filter_le _ _) (Nat.le_trans ?_ (ordS_six (n := n) (k := n) hn hn))
            rw [List.length_take]
            exact Nat.min_le_right _ _
          by_cases c3 : s1 = s2
          · rw [decide_eq_true c3]
            refine ⟨_, rfl, _, rfl, _, _, rfl, rfl, by rw [List.length_map]; omega, .d (rowD r), v4, v5, ?_⟩
            rw [nxt, List.filter_cons_of_pos (by exact decide_eq_true (iff.mp c3)), List.map_append]
            rfl
          · rw [decide_eq_false c3]
            refine ⟨.d (rowD r), v4, v5, ?_⟩
            rw [nxt, List.filter_cons_of_neg (by intro z; exact c3 (iff.mpr (of_decide_eq_true z)))]
            rw [List.filter_nil, List.append_nil]
            rfl
        · rintro env ⟨v3, v4, v5, rfl⟩
          rw [List.length_map, List.take_length]
          exact ⟨_, rfl, q⟩
      · rw [decide_eq_true c2]
        have e : namL n ps m qs = [] := by
          unfold namL
          rw [if_neg fun z => c2 z.2]
        rw [e] at q
        exact q
    · rw [decide_eq_true c1]
      have e : namL n ps m qs = [] := by
        unfold namL
        rw [if_neg fun z => c1 z.1]
      rw [e] at q
      exact q
end
end KD
set_option Elab.async false
set_option linter.all false
set_option maxRecDepth 100000
set_option maxHeartbeats 4000000
namespace KD
open PySem PySem.Spec PyProof.Rows L2 KW KC
/-- a pair of the search: a room, or -1 for any, and numbers of ends -/
abbrev Pr := Int × List Nat
/-- a pair as it is told -/
def PrR (p : Pr) (d : D) : Prop := ∃ x, d = .tup [.int p.1, x] ∧ asTup x = some (p.2.map natD)
def keyP (p : Pr) : NK := .tup [.num p.1, .tup (p.2.map fun i => .num ((i : Nat) : Int))]
theorem nums_inj : ∀ {l m : List Nat}, (l.map fun i => (PySem.NestedKey.num ((i : Nat) : Int))) = m.map (fun i => .num ((i : Nat) : Int)) → l = m
  | [], [], _ => rfl
  | [], _ :: _, h => nomatch h
  | _ :: _, [], h => nomatch h
  | a :: l, b :: m, h => by
    rw [List.map_cons, List.map_cons] at h
    injection h with h1 h2
    injection h1 with h1
    rw [nums_inj h2, show a = b by omega]
theorem keyP_inj {p q : Pr} (h : keyP p = keyP q) : p = q := by
  unfold keyP at h
  injection h with h
  injection h with h1 h
  injection h with h2 _
  injection h1 with h1
  injection h2 with h2
  obtain ⟨p1, p2⟩ := p
  obtain ⟨q1, q2⟩ := q
  have e2 : p2 = q2 := nums_inj h2
  have e1 : p1 = q1 := h1
  rw [e1, e2]
theorem depth_nums : ∀ l : List Nat, PySem.NestedKey.depthAll (l.map fun i => (PySem.NestedKey.num ((i : Nat) : Int))) ≤ 2
  | [] => by simp [PySem.NestedKey.depthAll]
  | a :: l => by
    have z := depth_nums l
    simp only [List.map_cons, PySem.NestedKey.depthAll, PySem.NestedKey.depth]
    omega
theorem keyP_depth (p : Pr) : (keyP p).depth ≤ 8 := by
  have z := depth_nums p.2
  unfold keyP
  simp only [PySem.NestedKey.depth, PySem.NestedKey.depthAll]
  omega
theorem nksD_nums : ∀ l : List Nat, nksD (l.map natD) = some (l.map fun i => (PySem.NestedKey.num ((i : Nat) : Int)))
  | [] => rfl
  | a :: l => by
    rw [List.map_cons, List.map_cons]
    unfold nksD
    rw [nksD_nums l]
    rfl
theorem PrR.key {d : D} {p : Pr} (h : PrR p d) : nkT d = some (keyP p) := by
  obtain ⟨x, rfl, hx⟩ := h
  have z : nkD x = some (.tup (p.2.map fun i => (PySem.NestedKey.num ((i : Nat) : Int)))) := by
    cases x <;> first | (cases hx; done) | skip
    all_goals
      simp only [asTup, Option.some.injEq] at hx
      subst hx
      unfold nkD
      rw [nksD_nums]
      rfl
  unfold nkT
  simp only [asTup, Option.bind_some]
  unfold nksD
  rw [show nkD (.int p.1) = some (.num p.1) from rfl]
  simp only [Option.bind_some]
  unfold nksD
  rw [z]
  rfl
/-- the state of the search -/
structure Sr (L m most : Nat) (pl : List Pr) (rs : List (List Nat)) (xs ys : List D) (kvs : List (NK × D)) : Prop where
  prs : Paired PrR pl xs
  rows : ys = rs.map fun r => twD (toI r)
  len : rs.length = pl.length
  good : ∀ p ∈ pl, (p.1 = -1 ∨ (0 ≤ p.1 ∧ p.1 < (m : Int))) ∧ p.2.Nodup ∧ ∀ i ∈ p.2, i < L
  few : pl.length ≤ most
  sm : smallN kvs
  has : ∀ p : Pr, (valND kvs (keyP p)).isSome = decide (p ∈ pl)
  kl : kvs.length ≤ pl.length
  short : ∀ r ∈ rs, r.length ≤ 5000
theorem valND_put (kvs : List (NK × D)) (k k' : NK) (d : D) : (valND (putND kvs k d) k').isSome = (decide (k' = k) || (valND kvs k').isSome) := by
  have any : ∀ (l : List (NK × D)) (q : NK), (valND l q).isSome = l.any fun p => decide (p.1 = q) := fun l q => by
    unfold valND
    rw [Option.isSome_map]
    induction l with
    | nil => rfl
    | cons x l ih =>
      rw [List.find?_cons, List.any_cons]
      cases decide (x.1 = q)
      · exact ih
      · rfl
  rw [any, any]
  unfold putND
  rw [any]
  by_cases c : (kvs.any fun p => decide (p.1 = k)) = true
  · rw [if_pos c, List.any_map]
    have e : ((fun p : NK × D => decide (p.1 = k')) ∘ fun p : NK × D => if p.1 = k then (p.1, d) else p) = fun p => decide (p.1 = k') := by
      funext p
      show decide ((if p.1 = k then (p.1, d) else p).1 = k') = _
      by_cases h : p.1 = k
      · rw [if_pos h]
      · rw [if_neg h]
    rw [e]
    by_cases h : k' = k
    · subst h
      rw [c]
      simp
    · rw [decide_eq_false h, Bool.false_or]
  · rw [if_neg c, List.any_append, Bool.or_comm]
    congr 1
    simp [eq_comm]
theorem Sr.at {L m most : Nat} {pl : List Pr} {rs : List (List Nat)} {xs ys : List D} {kvs : List (NK × D)} (h : Sr L m most pl rs xs ys kvs) {i : Nat} (lt : i < pl.length) : ∃ x, atI xs ((i : Nat) : Int) = some (.tup [.int (pl.getD i (0, [])).1, x]) ∧ asTup x = some ((pl.getD i (0, [])).2.map natD) := by
  have z : pl[i]? = some (pl.getD i (0, [])) := by rw [List.getD_eq_getElem?_getD, List.getElem?_eq_getElem lt]; rfl
  obtain ⟨d, hd, x, rfl, hx⟩ := paired_at h.prs z
  exact ⟨x, atI_nat hd, hx⟩
theorem Sr.row {L m most : Nat} {pl : List Pr} {rs : List (List Nat)} {xs ys : List D} {kvs : List (NK × D)} (h : Sr L m most pl rs xs ys kvs) {i : Nat} (lt : i < pl.length) : atI ys ((i : Nat) : Int) = some (twD (toI (rs.getD i []))) := by
  have lt2 : i < rs.length := by rw [h.len]; exact lt
  rw [h.rows]
  refine atI_nat ?_
  rw [List.getElem?_map, List.getD_eq_getElem?_getD, List.getElem?_eq_getElem lt2]
  rfl
theorem Sr.put {L m most : Nat} {pl : List Pr} {rs : List (List Nat)} {xs ys : List D} {kvs : List (NK × D)} (h : Sr L m most pl rs xs ys kvs) {p : Pr} {d : D} {r : List Nat} (hp : PrR p d) (no : p ∉ pl) (few : ¬ most ≤ pl.length) (good : (p.1 = -1 ∨ (0 ≤ p.1 ∧ p.1 < (m : Int))) ∧ p.2.Nodup ∧ ∀ i ∈ p.2, i < L) (sh : r.length ≤ 5000) (b : D) :
    Sr L m most (pl ++ [p]) (rs ++ [r]) (xs ++ [d]) (ys ++ [twD (toI r)]) (putND kvs (keyP p) b) := by
  refine ⟨paired_snoc h.prs hp, by rw [h.rows, List.map_append]; rfl, by rw [List.length_append, List.length_append, h.len]; rfl, fun q hq => ?_, by rw [List.length_append]; show pl.length + 1 ≤ most; omega, h.sm.put (keyP_depth p), fun q => ?_, ?_, fun q hq => ?_⟩
  · rcases List.mem_append.mp hq with hq | hq
    · exact h.good q hq
    · rw [List.mem_singleton.mp hq]
      exact good
  · rw [valND_put, h.has q]
    by_cases e : q = p
    · subst e
      rw [decide_eq_true rfl, decide_eq_true (List.mem_append_right _ (List.mem_singleton.mpr rfl))]
      rfl
    · rw [decide_eq_false fun z => e (keyP_inj z), Bool.false_or]
      refine decide_eq_decide.mpr ⟨fun z => List.mem_append_left _ z, fun z => ?_⟩
      rcases List.mem_append.mp z with z | z
      · exact z
      · exact absurd (List.mem_singleton.mp z) e
  · have := putND_len kvs (keyP p) b
    have := h.kl
    rw [List.length_append]
    show _ ≤ pl.length + 1
    omega
  · rcases List.mem_append.mp hq with hq | hq
    · exact h.short q hq
    · rw [List.mem_singleton.mp hq]
      exact sh
end KD
set_option Elab.async false
set_option maxRecDepth 100000
set_option maxHeartbeats 2000000
namespace KW
open PySem PySem.Spec PyProof.Rows L2
end KW
set_option Elab.async false
set_option linter.all false
set_option maxRecDepth 100000
set_option maxHeartbeats 4000000
namespace KD
open PySem PySem.Spec PyProof.Rows L2 KW KC
end KD
set_option Elab.async false
set_option linter.all false
set_option maxRecDepth 100000
set_option maxHeartbeats 4000000
namespace KD
open PySem PySem.Spec PyProof.Rows L2 KW KC
def enK : Nat → List Nat → NK
  | 0, e => .num ((e.headD 0 : Nat) : Int)
  | _ + 1, e => .tup (e.map fun i => PySem.NestedKey.num ((i : Nat) : Int))
def keyV (n : Nat) (ps : List (Nat × Nat)) (k : Nat) (p : Pr) : NK := .tup [.num p.1, .tup (p.2.map fun i => enK k ((endsE n ps k).getD i []))]
theorem enK_depth (k : Nat) (e : List Nat) : (enK k e).depth ≤ 4 := by
  cases k with
  | zero => simp [enK, PySem.NestedKey.depth]
  | succ k =>
    have z := depth_nums e
    simp only [enK, PySem.NestedKey.depth]
    omega
theorem depth_ens (k : Nat) : ∀ l : List (List Nat), PySem.NestedKey.depthAll (l.map (enK k)) ≤ 5
  | [] => by simp [PySem.NestedKey.depthAll]
  | e :: l => by
    have z := depth_ens k l
    have z2 := enK_depth k e
    simp only [List.map_cons, PySem.NestedKey.depthAll]
    omega
theorem keyV_depth {n : Nat} {ps : List (Nat × Nat)} {k : Nat} (p : Pr) : (keyV n ps k p).depth ≤ 8 := by
  have z := depth_ens k (p.2.map fun i => (endsE n ps k).getD i [])
  rw [List.map_map] at z
  have z : PySem.NestedKey.depthAll (p.2.map fun i => enK k ((endsE n ps k).getD i [])) ≤ 5 := z
  unfold keyV
  simp only [PySem.NestedKey.depth, PySem.NestedKey.depthAll]
  omega
theorem enK_inj {n : Nat} {ps : List (Nat × Nat)} : ∀ {k i j : Nat}, i < (endsE n ps k).length → j < (endsE n ps k).length → enK k ((endsE n ps k).getD i []) = enK k ((endsE n ps k).getD j []) → i = j
  | 0, i, j, hi, hj, h => by
    have e : ∀ i, i < (endsE n ps 0).length → (endsE n ps 0).getD i [] = [i] := fun i hi => by
      rw [List.getD_eq_getElem?_getD]
      unfold endsE at hi ⊢
      rw [List.length_map, List.length_range] at hi
      rw [List.getElem?_map, List.getElem?_range hi]
      rfl
    rw [e i hi, e j hj] at h
    have h : PySem.NestedKey.num ((i : Nat) : Int) = PySem.NestedKey.num ((j : Nat) : Int) := h
    injection h with h
    omega
  | k + 1, i, j, hi, hj, h => by
    have h : PySem.NestedKey.tup _ = PySem.NestedKey.tup _ := h
    injection h with h
    have h := nums_inj h
    have z1 := ixE_at (n := n) (ps := ps) (k := k + 1) (i := i) (e := (endsE n ps (k + 1)).getD i []) (by rw [List.getD_eq_getElem?_getD, List.getElem?_eq_getElem hi]; rfl)
    have z2 := ixE_at (n := n) (ps := ps) (k := k + 1) (i := j) (e := (endsE n ps (k + 1)).getD j []) (by rw [List.getD_eq_getElem?_getD, List.getElem?_eq_getElem hj]; rfl)
    rw [h] at z1
    omega
theorem ens_inj {n : Nat} {ps : List (Nat × Nat)} {k : Nat} : ∀ {S T : List Nat}, (∀ i ∈ S, i < (endsE n ps k).length) → (∀ i ∈ T, i < (endsE n ps k).length) → (S.map fun i => enK k ((endsE n ps k).getD i [])) = T.map (fun i => enK k ((endsE n ps k).getD i [])) → S = T
  | [], [], _, _, _ => rfl
  | [], _ :: _, _, _, h => nomatch h
  | _ :: _, [], _, _, h => nomatch h
  | a :: S, b :: T, hs, ht, h => by
    rw [List.map_cons, List.map_cons] at h
    injection h with h1 h2
    rw [enK_inj (hs a List.mem_cons_self) (ht b List.mem_cons_self) h1, ens_inj (fun i m => hs i (List.mem_cons_of_mem _ m)) (fun i m => ht i (List.mem_cons_of_mem _ m)) h2]
theorem keyV_inj {n : Nat} {ps : List (Nat × Nat)} {k : Nat} {p q : Pr} (hp : ∀ i ∈ p.2, i < (endsE n ps k).length) (hq : ∀ i ∈ q.2, i < (endsE n ps k).length) (h : keyV n ps k p = keyV n ps k q) : p = q := by
  unfold keyV at h
  injection h with h
  injection h with h1 h
  injection h with h2 _
  injection h1 with h1
  injection h2 with h2
  obtain ⟨p1, p2⟩ := p
  obtain ⟨q1, q2⟩ := q
  have e2 : p2 = q2 := ens_inj hp hq h2
  have e1 : p1 = q1 := h1
  rw [e1, e2]
theorem valND_cons (x : NK × D) (l : List (NK × D)) (k : NK) : valND (x :: l) k = if x.1 = k then some x.2 else valND l k := by
  unfold valND
  rw [List.find?_cons]
  by_cases h : x.1 = k
  · rw [decide_eq_true h, if_pos h]
    rfl
  · rw [decide_eq_false h, if_neg h]
theorem valND_put2 (kvs : List (NK × D)) (k k' : NK) (d : D) : valND (putND kvs k d) k' = if k' = k then some d else valND kvs k' := by
  unfold putND
  have sm : ∀ (l : List (NK × D)) (q : NK), (valND l q).isSome = true → ∃ p ∈ l, p.1 = q := fun l q h => by
    unfold valND at h
    rw [Option.isSome_map] at h
    obtain ⟨p, hp⟩ := Option.isSome_iff_exists.mp h
    exact ⟨p, List.mem_of_find?_eq_some hp, by simpa using List.find?_some hp⟩
  by_cases c : (valND kvs k).isSome = true
  · rw [if_pos c]
    obtain ⟨p0, m0, e0⟩ := sm _ _ c
    clear c sm
    induction kvs with
    | nil => cases m0
    | cons x l ih =>
      by_cases h : x.1 = k
      · by_cases g : k' = k
        · subst g
          simp [valND, List.find?_cons, h]
        · have : ¬ x.1 = k' := fun z => g (by rw [← z, h])
          rw [if_neg g]
          have tl : ∀ l : List (NK × D), valND (l.map fun p => if p.1 = k then (p.1, d) else p) k' = valND l k' := fun l => by
            induction l with
            | nil => rfl
            | cons y l ih =>
              by_cases hy : y.1 = k
              · have : ¬ y.1 = k' := fun z => g (by rw [← z, hy])
                have r := ih
                simp only [valND, List.map_cons, List.find?_cons, if_pos hy, decide_eq_false this] at r ⊢
                exact r
              · by_cases hy2 : y.1 = k'
                · rw [List.map_cons, if_neg hy, valND_cons, valND_cons, if_pos hy2, if_pos hy2]
                · have r := ih
                  simp only [valND, List.map_cons, List.find?_cons, if_neg hy, decide_eq_false hy2] at r ⊢
                  exact r
          exact tl _
      · have m1 : p0 ∈ l := (List.mem_cons.mp m0).resolve_left fun z => h (by rw [← z]; exact e0)
        have r := ih m1
        by_cases hx : x.1 = k'
        · have : ¬ k' = k := fun z => h (by rw [hx, z])
          rw [if_neg this, List.map_cons, if_neg h, valND_cons, valND_cons, if_pos hx, if_pos hx]
        · simp only [valND, List.map_cons, List.find?_cons, if_neg h, decide_eq_false hx] at r ⊢
          exact r
  · rw [if_neg c]
    have nn : valND kvs k = none := by
      cases e : valND kvs k with
      | none => rfl
      | some v => rw [e] at c; exact absurd rfl c
    unfold valND at nn ⊢
    rw [Option.map_eq_none_iff] at nn
    rw [List.find?_append]
    by_cases g : k' = k
    · subst g
      rw [if_pos rfl, nn]
      simp
    · rw [if_neg g]
      have : ¬ k = k' := fun z => g z.symm
      cases e : kvs.find? fun p => decide (p.1 = k') with
      | none => simp [this]
      | some v => rfl
/-- the state of the law's search -/
structure SrV (n : Nat) (ps : List (Nat × Nat)) (k m most : Nat) (pl : List Pr) (rs : List (List Nat)) (kvs : List (NK × D)) : Prop where
  nd : pl.Nodup
  len : rs.length = pl.length
  good : ∀ p ∈ pl, (p.1 = -1 ∨ (0 ≤ p.1 ∧ p.1 < (m : Int))) ∧ p.2.Nodup ∧ ∀ i ∈ p.2, i < (endsE n ps k).length
  few : pl.length ≤ most
  sm : smallN kvs
  val : ∀ (i : Nat) (p : Pr), pl[i]? = some p → valND kvs (keyV n ps k p) = some (twD (toI (rs.getD i [])))
  no : ∀ p : Pr, (∀ i ∈ p.2, i < (endsE n ps k).length) → p ∉ pl → valND kvs (keyV n ps k p) = none
  kl : kvs.length ≤ pl.length
theorem SrV.put {n : Nat} {ps : List (Nat × Nat)} {k m most : Nat} {pl : List Pr} {rs : List (List Nat)} {kvs : List (NK × D)} (h : SrV n ps k m most pl rs kvs) {p : Pr} {r : List Nat} (no : p ∉ pl) (few : ¬ most ≤ pl.length) (good : (p.1 = -1 ∨ (0 ≤ p.1 ∧ p.1 < (m : Int))) ∧ p.2.Nodup ∧ ∀ i ∈ p.2, i < (endsE n ps k).length) :
    SrV n ps k m most (pl ++ [p]) (rs ++ [r]) (putND kvs (keyV n ps k p) (twD (toI r))) := by
  refine ⟨?_, by rw [List.length_append, List.length_append, h.len]; rfl, fun q hq => ?_, by rw [List.length_append]; show pl.length + 1 ≤ most; omega, h.sm.put (keyV_depth p), fun i q hi => ?_, fun q gq hq => ?_, ?_⟩
  · rw [List.nodup_append]
    exact ⟨h.nd, by simp, fun x hx y hy z => no (by rw [← List.mem_singleton.mp hy, ← z]; exact hx)⟩
  · rcases List.mem_append.mp hq with hq | hq
    · exact h.good q hq
    · rw [List.mem_singleton.mp hq]
      exact good
  · rw [valND_put2]
    by_cases c : i < pl.length
    · rw [List.getElem?_append_left c] at hi
      have mq := List.mem_of_getElem? hi
      rw [if_neg fun z => ?_, h.val i q hi, List.getD_eq_getElem?_getD, List.getD_eq_getElem?_getD, List.getElem?_append_left (by rw [h.len]; exact c)]
      have e := keyV_inj (h.good q mq).2.2 good.2.2 z
      rw [e] at mq
      exact no mq
    · rw [List.getElem?_append_right (by omega)] at hi
      have ei : i = pl.length := by
        have z := (List.getElem?_eq_some_iff.mp hi).1
        simp at z
        omega
      subst ei
      rw [Nat.sub_self] at hi
      injection hi with hi
      subst hi
      rw [if_pos rfl, List.getD_eq_getElem?_getD, List.getElem?_append_right (by rw [h.len]; exact Nat.le_refl _), h.len, Nat.sub_self]
      rfl
  · rw [valND_put2, if_neg fun z => ?_]
    · exact h.no q gq fun z => hq (List.mem_append_left _ z)
    · have e := keyV_inj gq good.2.2 z
      exact hq (by rw [e]; exact List.mem_append_right _ (List.mem_singleton.mpr rfl))
  · have := putND_len kvs (keyV n ps k p) (twD (toI r))
    have := h.kl
    rw [List.length_append]
    show _ ≤ pl.length + 1
    omega
end KD
set_option Elab.async false
set_option linter.all false
set_option maxRecDepth 100000
set_option maxHeartbeats 4000000
namespace KD
open PySem PySem.Spec PyProof.Rows L2 KW KC
/-- rows are no longer than their places -/
def Sh (pl : List Pr) (rs : List (List Nat)) : Prop := rs.length = pl.length ∧ ∀ (j : Nat) (r : List Nat), rs[j]? = some r → r.length ≤ j
theorem Sh.add {pl : List Pr} {rs : List (List Nat)} (h : Sh pl rs) {p : Pr} {r : List Nat} (l : r.length ≤ rs.length) : Sh (pl ++ [p]) (rs ++ [r]) := by
  refine ⟨by rw [List.length_append, List.length_append, h.1]; rfl, fun j q hj => ?_⟩
  by_cases c : j < rs.length
  · rw [List.getElem?_append_left c] at hj
    exact h.2 j q hj
  · rw [List.getElem?_append_right (by omega)] at hj
    have z := (List.getElem?_eq_some_iff.mp hj).1
    have z : j - rs.length < 1 := z
    rw [show j - rs.length = 0 by omega] at hj
    have e : r = q := Option.some.inj hj
    subst e
    omega
end KD
set_option Elab.async false
set_option linter.all false
set_option maxRecDepth 100000
set_option maxHeartbeats 1000000
namespace KD
open PySem PySem.Spec PyProof.Rows L2 LamX KW
section
variable {Ω : Obs} {A : Am} {E : XK} {K : PySem.W.Frag} {Cs : Nat → Addr} {CL CF : Addr} {T : List (Addr × Str)}
/-- a law without a lambda -/
theorem run_law0 {N : List Str} {vs : List V} {H : Hp} {Q : VK} {E' : XK} {t : TS} {ms : MS} {k : Nat} {nxs : L2.St → Hp → Prop} (h : ∃ (a : Addr) (ns : List Int), vs = [.ref a] ∧ SqL K H a (ns.map V.int) ∧ ∀ H', Q (.bl true) H') (hN : N.length = k + 2)
    (hd : ∀ A b l ns, BagA A b l ns → TabA A [] → DenS Ω A L2.E0 t ms) (body : ms.wp { nx := fun _ => False, rt := fun d => d = .bl true } (.no :: .bag :: List.replicate k .no) (fun _ => False)) :
    tSeq (tAsg (tCall (spBag K) [] E' (tCons (tVar 0) tNil)) (gName 1)) t { nx := nxs, rt := Q } (L2.start N vs) H := by
  obtain ⟨a, ns, rfl, hS, fin⟩ := h
  refine ⟨_, rfl, a, ns, rfl, hS, fun H' b l s nb nl B => ?_⟩
  have T : Tabs [] H' := fun p hp => by cases hp
  have fr : Fr (AL b l (ns.take 63) []) (fun _ => none) H' := ⟨⟨B, T⟩, fun _ _ z => (nomatch z), fun _ _ z => (nomatch z)⟩
  have ok : Ok Ω (AL b l (ns.take 63) []) (fun _ => none) ((L2.start N [V.ref a]).set 1 (some (.ref b))) (.no :: .bag :: List.replicate k .no) H' := by
    have st : (L2.start N [V.ref a]).set 1 (some (.ref b)) = some (V.ref a) :: some (V.ref b) :: List.replicate k none := by
      unfold L2.start
      rw [hN]
      show (some (V.ref a) :: List.replicate (k + 2 - 1) none).set 1 (some (.ref b)) = _
      rw [show k + 2 - 1 = k + 1 by omega, List.replicate_succ]
      rfl
    rw [st]
    refine ⟨fr, by simp, fun i => ?_, fun i j z => ?_, fun i h ls xss e => by
      match i with
      | 0 => cases e
      | 1 => cases e
      | i + 2 =>
        have e : get (List.replicate k E1.no) i = _ := e
        rw [get_no] at e
        cases e⟩
    · match i with
      | 0 => exact trivial
      | 1 => exact ⟨b, rfl, rfl⟩
      | i + 2 =>
        show SlotR Ω _ _ _ _ (get (List.replicate k E1.no) i)
        rw [get_no]
        exact trivial
    · match i with
      | 0 => cases z
      | 1 => cases z
      | i + 2 =>
        have z : isOwn (get (List.replicate k E1.no) i) = true := z
        rw [get_no] at z
        cases z
  exact hd _ b l _ AL.bag AL.tab _ _ _ H' _ { nx := fun _ => False, rt := fun d => d = .bl true } _ ok (fun _ z => z.elim) ⟨fun _ _ _ _ _ _ z => z.elim, fun G' v d H2 _ _ r e => by
    subst e
    cases r
    exact fin H2, fun _ _ _ _ _ _ _ _ _ _ _ z => z.elim, fun _ _ _ _ _ _ z => z.elim, fun _ _ _ _ _ _ z => z.elim⟩ body
end
end KD
set_option Elab.async false
set_option linter.all false
set_option maxRecDepth 100000
set_option maxHeartbeats 4000000
namespace KD
open PySem PySem.Spec PyProof.Rows L2 LamX KW KC
theorem namL_self {n : Nat} {ps : List (Nat × Nat)} (h : In2 n ps) : namL n ps n ps ≠ [] := by
  refine namL_ne (r := List.range n) (.refl _) ?_
  have e : ps.map (namF (List.range n)) = ps := by
    conv => rhs; rw [← List.map_id ps]
    refine List.map_congr_left fun p hp => ?_
    have l := h p hp
    unfold namF
    rw [List.getD_eq_getElem?_getD, List.getD_eq_getElem?_getD, List.getElem?_range l.1, List.getElem?_range l.2]
    rfl
  rw [e]
theorem nl_ok {r : List Nat} (h : r.length ≤ 1000) : pl 60 (nlD r) ∧ okT 3 (py (nlD r)) := by
  refine ⟨show pl 60 (.lst _) from pl_map fun _ _ => pl_int, .inr ⟨_, .inl rfl, ?_, fun y hy => ?_⟩⟩
  · rw [pys_map, List.length_map, List.length_map]
    exact h
  · rw [pys_map, List.map_map] at hy
    obtain ⟨x, _, rfl⟩ := List.mem_map.mp hy
    exact Or.inl (Or.inl ⟨_, rfl⟩)
theorem na_ok {n : Nat} {ps : List (Nat × Nat)} {m : Nat} {qs : List (Nat × Nat)} (hn : n ≤ 6) : pl 60 (naD n ps m qs) ∧ okT 3 (py (naD n ps m qs)) := by
  unfold naD
  cases e : namL n ps m qs with
  | nil => exact ⟨pl_non, .inl (.inr (.inr (.inr rfl)))⟩
  | cons r l =>
    have hr : r ∈ namL n ps m qs := by rw [e]; exact List.mem_cons_self
    refine nl_ok ?_
    unfold namL at hr
    by_cases c : n = m ∧ ps.length = qs.length
    · rw [if_pos c] at hr
      have := (ordS_mem.mp (List.mem_filter.mp hr).1).1
      omega
    · rw [if_neg c] at hr
      cases hr
section
variable {P : Program} {w : World} {K : PySem.W.Frag} {mg : Str → Option Value} {base : Heap} {Ω : Obs} {C CRd CBadRoom CBadFold CBadPart CTooMany CBadNaming CBadWindow : Addr}
abbrev sLaw : Stmt := topS 37
abbrev nLaw : List Str := ["_law_script", "_law_bag_here", "_law_turn", "_law_w", "_law_rooms", "_law_arrows", "_law_v", "_law_act", "_law_pairs", "_law_at", "_law_due", "_law_again_z", "_law_k"]
theorem scLaw : FnScope nLaw ["_law_script"] (defScope sLaw) := ⟨rfl, rfl, rfl, by decide +kernel, rfl, by decide +kernel, by decide +kernel⟩
def spLaw (K : PySem.W.Frag) : Sp := fun vs H Q _ => ∃ (a : Addr) (ns : List Int), vs = [.ref a] ∧ SqL K H a (ns.map V.int) ∧ ∀ H', Q (.bl true) H'
set_option maxHeartbeats 40000000 in
theorem ok_law {f C : Addr} {fd : FuncData} (F : Fun K "law" "law" sLaw f fd)
    (cLawBag : Cal P w K mg base CX0 1 "_law_bag" ["_law_script"] (spBag K)) (cLawWeb : Cal P w K mg base CX0 3 "_law_web" ["_law_bag_here", "_law_rooms_most", "_law_more_most"] (spB Ω mfWeb)) (cLawNaming : Cal P w K mg base CX0 3 "_law_naming" ["_law_bag_here", "_law_w"] (spB Ω mfLawNamingA)) (cLawNamed : Cal P w K mg base CX0 1 "_law_named" ["_law_w", "_law_rooms", "_law_arrows"] (spD Ω mfLawNamedA)) (cLawPull : Cal P w K mg base CX0 1 "_law_pull" ["_law_bag_here", "_law_many"] (spB Ω mfPull)) (cLawNamings : Cal P w K mg base CX0 2 "_law_namings" ["_law_w", "_law_v"] (spO Ω mfLawNamingsA)) (cLawSame : Cal P w K mg base CX0 4 "_law_same" ["_law_found", "_law_due"] (spD Ω mfSame)) (cNaming : Cal P w K mg base CX0 5 "naming" ["one", "other"] (spD Ω mfNaming)) (cLawMade : Cal P w K mg base CX0 5 "_law_made" ["_law_w"] (spD Ω mfMadeS)) (mLen : mg "len" = none) (mList : mg "list" = none) (mRange : mg "range" = none) (mTuple : mg "tuple" = none) :
    FnOk P w K mg base CX0 6 f fd ["_law_script"] (spLaw K) := by
  refine F.ok scLaw (fun vs H Q E h => ?_) (fun cdv A outer s H vs Q E hr h => ?_)
  · obtain ⟨a, ns, rfl, _⟩ := h
    rfl
  obtain ⟨fLawBag, fdLawBag, GLawBag, bLawBag, mLawBag, kLawBag⟩ := cLawBag
  have hrLawBag : Room 1 _ := hr.mono (by decide)
  obtain ⟨fLawWeb, fdLawWeb, GLawWeb, bLawWeb, mLawWeb, kLawWeb⟩ := cLawWeb
  have hrLawWeb : Room 3 _ := hr.mono (by decide)
  obtain ⟨fLawNaming, fdLawNaming, GLawNaming, bLawNaming, mLawNaming, kLawNaming⟩ := cLawNaming
  have hrLawNaming : Room 3 _ := hr.mono (by decide)
  obtain ⟨fLawNamed, fdLawNamed, GLawNamed, bLawNamed, mLawNamed, kLawNamed⟩ := cLawNamed
  have hrLawNamed : Room 1 _ := hr.mono (by decide)
  obtain ⟨fLawPull, fdLawPull, GLawPull, bLawPull, mLawPull, kLawPull⟩ := cLawPull
  have hrLawPull : Room 1 _ := hr.mono (by decide)
  obtain ⟨fLawNamings, fdLawNamings, GLawNamings, bLawNamings, mLawNamings, kLawNamings⟩ := cLawNamings
  have hrLawNamings : Room 2 _ := hr.mono (by decide)
  obtain ⟨fLawSame, fdLawSame, GLawSame, bLawSame, mLawSame, kLawSame⟩ := cLawSame
  have hrLawSame : Room 4 _ := hr.mono (by decide)
  obtain ⟨fNaming, fdNaming, GNaming, bNaming, mNaming, kNaming⟩ := cNaming
  have hrNaming : Room 5 _ := hr.mono (by decide)
  obtain ⟨fLawMade, fdLawMade, GLawMade, bLawMade, mLawMade, kLawMade⟩ := cLawMade
  have hrLawMade : Room 5 _ := hr.mono (by decide)
  refine ⟨_, PSs.nox (pss_cons (ps_set (i := 1) scLaw.nd rfl (Or.inl rfl) (pe_call GLawBag hrLawBag rfl mLawBag kLawBag bLawBag .nil pass0 (pa_cons (pv 0) pa_nil)))
 (pss_cons (ps_for PassesOwn.never rfl (pi_range1 (by rfl) mRange (pa_cons pe_int pa_nil)) (pg_name (i := 2) scLaw.nd rfl (Or.inl rfl))
 (pss_cons (ps_set (i := 3) scLaw.nd rfl (Or.inl rfl) (pe_call GLawWeb hrLawWeb rfl mLawWeb kLawWeb bLawWeb .nil pass0 (pa_cons (pv 1) (pa_cons pe_int (pa_cons pe_int pa_nil)))))
 (pss_cons (ps_asg (pe_call GLawNaming hrLawNaming rfl mLawNaming kLawNaming bLawNaming .nil pass0 (pa_cons (pv 1) (pa_cons (pv 3) pa_nil))) (pg_tup rfl (pgs_cons (pg_name (i := 4) scLaw.nd rfl (Or.inl rfl)) (pgs_cons (pg_name (i := 5) scLaw.nd rfl (Or.inl rfl)) pgs_nil))))
 (pss_cons (ps_set (i := 6) scLaw.nd rfl (Or.inl rfl) (pe_call GLawNamed hrLawNamed rfl mLawNamed kLawNamed bLawNamed .nil pass0 (pa_cons (pv 3) (pa_cons (pv 4) (pa_cons (pv 5) pa_nil)))))
 (pss_cons (ps_set (i := 7) scLaw.nd rfl (Or.inl rfl) (pe_call GLawPull hrLawPull rfl mLawPull kLawPull bLawPull .nil pass0 (pa_cons (pv 1) (pa_cons pe_int pa_nil))))
 (pss_cons (ps_if (pt_cmpR op_eq (pv 7) pe_int (nomark _))
 (pss_cons (ps_set (i := 8) scLaw.nd rfl (Or.inl rfl) (pe_callTy call_list_of (by rfl) mList boot_list' (pa_cons (pe_ix ix_tup (pv 6) pe_int (fun _ _ => rfl)) pa_nil)))
 (pss_cons (ps_set (i := 9) scLaw.nd rfl (Or.inl rfl) (pe_call GLawPull hrLawPull rfl mLawPull kLawPull bLawPull .nil pass0 (pa_cons (pv 1) (pa_cons (pe_callB call_len_seq (by rfl) mLen PySem.boot_len (pa_cons (pv 8) pa_nil)) pa_nil))))
 (pss_cons (ps_asg (pe_tup (pa_cons (pe_ix ix_tup (pe_ix ix_list (pv 8) (pv 9) (fun _ _ => rfl)) pe_int (fun _ _ => rfl)) (pa_cons (pe_call GLawPull hrLawPull rfl mLawPull kLawPull bLawPull .nil pass0 (pa_cons (pv 1) (pa_cons (pe_ix ix_tup (pv 6) pe_int (fun _ _ => rfl)) pa_nil))) pa_nil))) (pg_sub (pv 8) (pv 9) set_list))
 (pss_one (ps_set (i := 6) scLaw.nd rfl (Or.inl rfl) (pe_tup (pa_cons (pe_ix ix_tup (pv 6) pe_int (fun _ _ => rfl)) (pa_cons (pe_callTy call_tupleF (by rfl) mTuple boot_tuple' (pa_cons (pv 8) pa_nil)) pa_nil))))))))
 pss_nil)
 (pss_cons (ps_if (pt_cmpR op_eq (pv 7) pe_int (nomark _))
 (pss_one (ps_set (i := 6) scLaw.nd rfl (Or.inl rfl) (pe_call GLawWeb hrLawWeb rfl mLawWeb kLawWeb bLawWeb .nil pass0 (pa_cons (pv 1) (pa_cons pe_int (pa_cons pe_int pa_nil))))))
 pss_nil)
 (pss_cons (ps_set (i := 10) scLaw.nd rfl (Or.inl rfl) (pe_call GLawNamings hrLawNamings rfl mLawNamings kLawNamings bLawNamings .nil pass0 (pa_cons (pv 3) (pa_cons (pv 6) pa_nil))))
 (pss_cons (ps_for PassesOwn.never rfl (pi_range1 (by rfl) mRange (pa_cons pe_int pa_nil)) (pg_name (i := 11) scLaw.nd rfl (Or.inl rfl))
 (pss_one (ps_if (pt_not (pt_val (pe_call GLawSame hrLawSame rfl mLawSame kLawSame bLawSame .nil pass0 (pa_cons (pe_call GNaming hrNaming rfl mNaming kNaming bNaming .nil pass0 (pa_cons (pe_call GLawMade hrLawMade rfl mLawMade kLawMade bLawMade .nil pass0 (pa_cons (pv 3) pa_nil)) (pa_cons (pe_call GLawMade hrLawMade rfl mLawMade kLawMade bLawMade .nil pass0 (pa_cons (pv 6) pa_nil)) pa_nil))) (pa_cons (pe_ifExp (pt_cmpR (op_neD hr.units) (pv 10) (pe_lst pa_nil) (nomark _)) (pe_ix ix_list (pv 10) pe_int (fun _ _ => rfl)) pe_non) pa_nil)))))
 pss_never
 pss_nil)))
 (pss_one (ps_if (pt_not (pt_val (pe_call GLawSame hrLawSame rfl mLawSame kLawSame bLawSame .nil pass0 (pa_cons (pe_call GNaming hrNaming rfl mNaming kNaming bNaming .nil pass0 (pa_cons (pe_call GLawMade hrLawMade rfl mLawMade kLawMade bLawMade .nil pass0 (pa_cons (pv 3) pa_nil)) (pa_cons (pe_call GLawMade hrLawMade rfl mLawMade kLawMade bLawMade .nil pass0 (pa_cons (pv 3) pa_nil)) pa_nil))) (pa_cons (pe_ix ix_list (pe_call GLawNamings hrLawNamings rfl mLawNamings kLawNamings bLawNamings .nil pass0 (pa_cons (pv 3) (pa_cons (pv 3) pa_nil))) pe_int (fun _ _ => rfl)) pa_nil)))))
 pss_never
 pss_nil)))))))))))
 (pss_cons (ps_set (i := 3) scLaw.nd rfl (Or.inl rfl) (pe_tup (pa_cons pe_int (pa_cons (pe_op op_catT (pe_callTy call_tupleF (by rfl) mTuple boot_tuple' (pa_cons (pe_lc (own := [("_law_k", 12)]) (g := (gName 12)) (tt := tYes) rfl scLaw.nd (pi_range1 (by rfl) mRange (pa_cons pe_int pa_nil)) (blkOk_by (own := [("_law_k", 12)]) (N := nLaw) (sc := defScope sLaw) (by decide +kernel)) (fun _ _ _ _ _ => (pg_name (i := 12) scLaw.nd rfl (Or.inl rfl))) (fun _ _ _ _ _ => pts_nil) (fun _ _ _ _ _ => (pe_tup (pa_cons (pv 12) (pa_cons (pe_op op_mod (pe_op op_add (pv 12) pe_int) pe_int) pa_nil))))) pa_nil)) (pe_tup (pa_cons (pe_tup (pa_cons pe_int (pa_cons pe_int pa_nil))) (pa_cons (pe_tup (pa_cons (pe_call GLawPull hrLawPull rfl mLawPull kLawPull bLawPull .nil pass0 (pa_cons (pv 1) (pa_cons pe_int pa_nil))) (pa_cons pe_int pa_nil))) pa_nil)))) pa_nil))))
 (pss_cons (ps_asg (pe_call GLawNaming hrLawNaming rfl mLawNaming kLawNaming bLawNaming .nil pass0 (pa_cons (pv 1) (pa_cons (pv 3) pa_nil))) (pg_tup rfl (pgs_cons (pg_name (i := 4) scLaw.nd rfl (Or.inl rfl)) (pgs_cons (pg_name (i := 5) scLaw.nd rfl (Or.inl rfl)) pgs_nil))))
 (pss_cons (ps_set (i := 6) scLaw.nd rfl (Or.inl rfl) (pe_call GLawNamed hrLawNamed rfl mLawNamed kLawNamed bLawNamed .nil pass0 (pa_cons (pv 3) (pa_cons (pv 4) (pa_cons (pv 5) pa_nil)))))
 (pss_one (ps_ret (pe_call GLawSame hrLawSame rfl mLawSame kLawSame bLawSame .nil pass0 (pa_cons (pe_call GNaming hrNaming rfl mNaming kNaming bNaming .nil pass0 (pa_cons (pe_call GLawMade hrLawMade rfl mLawMade kLawMade bLawMade .nil pass0 (pa_cons (pv 3) pa_nil)) (pa_cons (pe_call GLawMade hrLawMade rfl mLawMade kLawMade bLawMade .nil pass0 (pa_cons (pv 6) pa_nil)) pa_nil))) (pa_cons (pe_ix ix_list (pe_call GLawNamings hrLawNamings rfl mLawNamings kLawNamings bLawNamings .nil pass0 (pa_cons (pv 3) (pa_cons (pv 6) pa_nil))) pe_int (fun _ _ => rfl)) pa_nil)))))))))),
    run_law0 (k := 11) h rfl (fun A b l ns B BT => (ds_seq (ds_for (di_range1 (da_cons dn_int da_nil)) dg_name
 (ds_seq (ds_set (dn_bag B (da_cons dn_int (da_cons dn_int da_nil))))
 (ds_seq (ds_asg (dn_bag B (da_cons dn_var da_nil)) (dg_tup (dgs_cons dg_name (dgs_cons dg_name dgs_nil))))
 (ds_seq (ds_set (dn_call0 (da_cons dn_var (da_cons dn_var (da_cons dn_var da_nil)))))
 (ds_seq (ds_set (dn_bag B (da_cons dn_int da_nil)))
 (ds_seq (ds_if (dt_test (dn_op op_eqS dn_var dn_int))
 (ds_seq (ds_setO (do_callB c_list (da_cons (dn_op op_ixT dn_var dn_int) da_nil)))
 (ds_seq (ds_set (dn_bag B (da_cons dn_lenOwn da_nil)))
 (ds_seq (ds_setAt (dn_tup (da_cons (dn_op op_ixT (dn_ixOwn dn_var) dn_int) (da_cons (dn_bag B (da_cons (dn_op op_ixT dn_var dn_int) da_nil)) da_nil))) dn_var)
 (ds_frz (i := 8) (ds_set (dn_tup (da_cons (dn_op op_ixT dn_var dn_int) (da_cons (dn_callB c_tupF (da_cons dn_var da_nil)) da_nil))))))))
 ds_next)
 (ds_seq (ds_if (dt_test (dn_op op_eqS dn_var dn_int))
 (ds_set (dn_bag B (da_cons dn_int (da_cons dn_int da_nil))))
 ds_next)
 (ds_seq (ds_set (dn_own (do_call0 (da_cons dn_var (da_cons dn_var da_nil)))))
 (ds_seq (ds_for (di_range1 (da_cons dn_int da_nil)) dg_name
 (ds_if (dt_not (dt_val (dn_call0 (da_cons (dn_call0 (da_cons (dn_call0 (da_cons dn_var da_nil)) (da_cons (dn_call0 (da_cons dn_var da_nil)) da_nil))) (da_cons (dn_if (dt_test (dn_op op_ned dn_var (dn_own (do_lst da_nil)))) (dn_op op_ixL dn_var dn_int) dn_non) da_nil)))))
 ds_never
 ds_next))
 (ds_if (dt_not (dt_val (dn_call0 (da_cons (dn_call0 (da_cons (dn_call0 (da_cons dn_var da_nil)) (da_cons (dn_call0 (da_cons dn_var da_nil)) da_nil))) (da_cons (dn_op op_ixL (dn_own (do_call0 (da_cons dn_var (da_cons dn_var da_nil)))) dn_int) da_nil)))))
 ds_never
 ds_next))))))))))
 (ds_seq (ds_set (dn_tup (da_cons dn_int (da_cons (dn_op op_catTd (dn_callB c_tupF (da_cons (dn_own (do_lc (di_range1 (da_cons dn_int da_nil)) dg_name dt_yes (dn_tup (da_cons dn_var (da_cons (dn_op op_ic (dn_op op_i dn_var dn_int) dn_int) da_nil))) (by decide))) da_nil)) (dn_tup (da_cons (dn_tup (da_cons dn_int (da_cons dn_int da_nil))) (da_cons (dn_tup (da_cons (dn_bag B (da_cons dn_int da_nil)) (da_cons dn_int da_nil))) da_nil)))) da_nil))))
 (ds_seq (ds_asg (dn_bag B (da_cons dn_var da_nil)) (dg_tup (dgs_cons dg_name (dgs_cons dg_name dgs_nil))))
 (ds_seq (ds_set (dn_call0 (da_cons dn_var (da_cons dn_var (da_cons dn_var da_nil)))))
 (ds_ret (dn_call0 (da_cons (dn_call0 (da_cons (dn_call0 (da_cons dn_var da_nil)) (da_cons (dn_call0 (da_cons dn_var da_nil)) da_nil))) (da_cons (dn_op op_ixL (dn_own (do_call0 (da_cons dn_var (da_cons dn_var da_nil)))) dn_int) da_nil))))))))) ?_⟩
  have first : ∀ {n : Nat} {ps : List (Nat × Nat)} {m : Nat} {qs : List (Nat × Nat)}, namL n ps m qs ≠ [] → atI ((namL n ps m qs).map nlD) 0 = some (naD n ps m qs) := fun {n ps m qs} ne => by
    unfold naD
    cases e : namL n ps m qs with
    | nil => exact absurd e ne
    | cons r l => exact atI_nat (j := 0) rfl
  refine MS.cut (fun env => ∃ v2 v3 v4 v5 v6 v7 v8 v9 v10 v11 v12 : E1, env = [.no, .bag, v2, v3, v4, v5, v6, v7, v8, v9, v10, v11, v12]) ?_ ?_
  · refine ⟨4, rfl, ⟨by decide, by decide⟩, fun _ env => ∃ v2 v3 v4 v5 v6 v7 v8 v9 v10 v11 v12 : E1, env = [.no, .bag, v2, v3, v4, v5, v6, v7, v8, v9, v10, v11, v12], ⟨_, _, _, _, _, _, _, _, _, _, _, rfl⟩, ?_, fun env h => h⟩
    rintro i x env hx ⟨v2, v3, v4, v5, v6, v7, v8, v9, v10, v11, v12, rfl⟩
    dsimp only [gdName]
    refine MS.cut (fun env => ∃ (n : Nat) (ps : List (Nat × Nat)), (Good n ps ∧ n ≤ 5 ∧ ps.length ≤ 10) ∧ env = [.no, .bag, .d x, .d (wD n ps), v4, v5, v6, v7, v8, v9, v10, v11, v12]) ?_ ?_
    · exact ⟨rfl, 5, 5, rfl, by decide, by decide, by decide, fun n ps hG hn hp => ⟨n, ps, ⟨hG, hn, hp⟩, rfl⟩⟩
    rintro env ⟨n, ps, ⟨hG, hn, hp⟩, rfl⟩
    refine MS.cut (fun env => ∃ rs is : List Nat, (rs.Perm (List.range n) ∧ is.Perm (List.range ps.length)) ∧ env = [.no, .bag, .d x, .d (wD n ps), .d (.lst (rs.map natD)), .d (.lst (is.map natD)), v6, v7, v8, v9, v10, v11, v12]) ?_ ?_
    · refine ⟨rfl, _, rfl, _, n, ps, rfl, wAs_wD, by omega, by omega, fun rs is pr pi => ⟨_, rfl, rfl, _, _, rfl, _, _, rfl, rfl, rs, is, ⟨pr, pi⟩, rfl⟩⟩
    rintro env ⟨rs, is, ⟨pr, pi⟩, rfl⟩
    refine MS.cut (fun env => ∃ (m : Nat) (qs : List (Nat × Nat)), (Good m qs ∧ m ≤ 5 ∧ qs.length ≤ 10) ∧ env = [.no, .bag, .d x, .d (wD n ps), .d (.lst (rs.map natD)), .d (.lst (is.map natD)), .d (wD m qs), v7, v8, v9, v10, v11, v12]) ?_ ?_
    · refine ⟨_, rfl, _, rfl, _, rfl, _, n, ps, rs, is, rfl, wAs_wD, hG, by omega, by omega, pr, pi, n, namP ps rs is, ⟨nam_good hG pr pi, hn, ?_⟩, rfl⟩
      unfold namP
      rw [List.length_map, List.length_range]
      exact hp
    rintro env ⟨m, qs, ⟨hG2, hm, hq⟩, rfl⟩
    refine MS.cut (fun env => ∃ a : Int, env = [.no, .bag, .d x, .d (wD n ps), .d (.lst (rs.map natD)), .d (.lst (is.map natD)), .d (wD m qs), .d (.int a), v8, v9, v10, v11, v12]) ?_ ?_
    · exact ⟨rfl, 4, rfl, by decide, by decide, fun a _ _ => ⟨a, rfl⟩⟩
    rintro env ⟨a, rfl⟩
    refine MS.cut (fun env => ∃ (m : Nat) (qs : List (Nat × Nat)) (v8 v9 : E1), (Good m qs ∧ m ≤ 5 ∧ qs.length ≤ 10) ∧ env = [.no, .bag, .d x, .d (wD n ps), .d (.lst (rs.map natD)), .d (.lst (is.map natD)), .d (wD m qs), .d (.int a), v8, v9, v10, v11, v12]) ?_ ?_
    · refine ⟨_, rfl, _, _, rfl, rfl, rfl, _, rfl, ?_⟩
      by_cases c : a = 0
      · subst c
        refine iteT ?_
        refine MS.cut (fun env => env = [.no, .bag, .d x, .d (wD n ps), .d (.lst (rs.map natD)), .d (.lst (is.map natD)), .d (wD m qs), .d (.int 0), .own (qs.map prD), v9, v10, v11, v12]) ?_ ?_
        · exact ⟨_, rfl, _, _, _, rfl, rfl, rfl, _, _, rfl, rfl, rfl⟩
        rintro env rfl
        have ql : 0 < qs.length := by
          obtain ⟨q, hq, _⟩ := hG2.2.2 0 hG2.1
          exact List.length_pos_iff.mpr fun e => by rw [e] at hq; cases hq
        refine MS.cut (fun env => ∃ t : Nat, t < qs.length ∧ env = [.no, .bag, .d x, .d (wD n ps), .d (.lst (rs.map natD)), .d (.lst (is.map natD)), .d (wD m qs), .d (.int 0), .own (qs.map prD), .d (natD t), v10, v11, v12]) ?_ ?_
        · refine ⟨rfl, _, rfl, _, rfl, by rw [List.length_map]; omega, by rw [List.length_map]; omega, fun r h0 h1 => ?_⟩
          obtain ⟨t, rfl⟩ := Int.eq_ofNat_of_zero_le h0
          rw [List.length_map] at h1
          exact ⟨t, by omega, rfl⟩
        rintro env ⟨t, ht, rfl⟩
        have eq : qs[t]? = some (qs.getD t (0, 0)) := by rw [List.getD_eq_getElem?_getD, List.getElem?_eq_getElem ht]; rfl
        refine MS.cut (fun env => ∃ r : Nat, r < m ∧ env = [.no, .bag, .d x, .d (wD n ps), .d (.lst (rs.map natD)), .d (.lst (is.map natD)), .d (wD m qs), .d (.int 0), .own ((qs.map prD).set t (prD ((qs.getD t (0, 0)).1, r))), .d (natD t), v10, v11, v12]) ?_ ?_
        · refine ⟨_, rfl, ?_⟩
          refine ⟨_, rfl, _, rfl, _, _, rfl, at_map eq, ?_⟩
          refine ⟨_, _, _, rfl, rfl, rfl, ?_⟩
          refine ⟨rfl, _, rfl, _, _, _, rfl, rfl, rfl, m, rfl, by have := hG2.1; omega, by omega, fun r h0 h1 => ?_⟩
          obtain ⟨r, rfl⟩ := Int.eq_ofNat_of_zero_le h0
          exact ⟨_, rfl, t, rfl, by rw [List.length_map]; exact ht, r, by omega, rfl⟩
        rintro env ⟨r, hr, rfl⟩
        have e1 : (qs.map prD).set t (prD ((qs.getD t (0, 0)).1, r)) = (qs.set t ((qs.getD t (0, 0)).1, r)).map prD := by rw [List.map_set]
        refine ⟨_, rfl, rfl, _, rfl, _, _, _, rfl, rfl, rfl, _, rfl, _, rfl, m, qs.set t ((qs.getD t (0, 0)).1, r), .d (.lst ((qs.map prD).set t (prD ((qs.getD t (0, 0)).1, r)))), .d (natD t), ⟨⟨hG2.1, fun p hp => ?_, fun y hy => ?_⟩, hm, by rw [List.length_set]; exact hq⟩, ?_⟩
        · rcases List.mem_or_eq_of_mem_set hp with h | h
          · exact hG2.2.1 p h
          · rw [h]
            exact ⟨(hG2.2.1 _ (List.mem_of_getElem? eq)).1, hr⟩
        · obtain ⟨p, hp, ep⟩ := hG2.2.2 y hy
          obtain ⟨i, hi⟩ := List.mem_iff_getElem?.mp hp
          by_cases c : t = i
          · subst c
            refine ⟨((qs.getD t (0, 0)).1, r), List.mem_of_getElem? (i := t) (by rw [List.getElem?_set_self ht]), ?_⟩
            rw [eq] at hi
            rw [Option.some.inj hi]
            exact ep
          · exact ⟨p, List.mem_of_getElem? (i := i) (by rw [List.getElem?_set_ne c]; exact hi), ep⟩
        · rw [e1]
          rfl
      · rw [show id (decide (V.int a = V.int 0)) = false from decide_eq_false fun z => c (by injection z)]
        exact iteF ⟨m, qs, v8, v9, ⟨hG2, hm, hq⟩, rfl⟩
    rintro env ⟨m, qs, v8, v9, ⟨hG2, hm, hq⟩, rfl⟩
    refine MS.cut (fun env => ∃ (m : Nat) (qs : List (Nat × Nat)), (Good m qs ∧ m ≤ 5 ∧ qs.length ≤ 10) ∧ env = [.no, .bag, .d x, .d (wD n ps), .d (.lst (rs.map natD)), .d (.lst (is.map natD)), .d (wD m qs), .d (.int a), v8, v9, v10, v11, v12]) ?_ ?_
    · refine ⟨_, rfl, _, _, rfl, rfl, rfl, _, rfl, ?_⟩
      by_cases c : a = 1
      · subst c
        refine iteT ⟨rfl, 5, 5, rfl, by decide, by decide, by decide, fun n ps hG hn hp => ⟨n, ps, ⟨hG, hn, hp⟩, rfl⟩⟩
      · rw [show id (decide (V.int a = V.int 1)) = false from decide_eq_false fun z => c (by injection z)]
        exact iteF ⟨m, qs, ⟨hG2, hm, hq⟩, rfl⟩
    rintro env ⟨m, qs, ⟨hG2, hm, hq⟩, rfl⟩
    refine MS.cut (fun env => env = [.no, .bag, .d x, .d (wD n ps), .d (.lst (rs.map natD)), .d (.lst (is.map natD)), .d (wD m qs), .d (.int a), v8, v9, .d (.lst ((namL n ps m qs).map nlD)), v11, v12]) ?_ ?_
    · exact ⟨_, rfl, _, rfl, _, n, ps, m, qs, rfl, wAs_wD, hG.2.1, by omega, by omega, rfl⟩
    rintro env rfl
    refine MS.cut (fun env => ∃ v11, env = [.no, .bag, .d x, .d (wD n ps), .d (.lst (rs.map natD)), .d (.lst (is.map natD)), .d (wD m qs), .d (.int a), v8, v9, .d (.lst ((namL n ps m qs).map nlD)), v11, v12]) ?_ ?_
    · refine ⟨2, rfl, ⟨by decide, by decide⟩, fun _ env => ∃ v11, env = [.no, .bag, .d x, .d (wD n ps), .d (.lst (rs.map natD)), .d (.lst (is.map natD)), .d (wD m qs), .d (.int a), v8, v9, .d (.lst ((namL n ps m qs).map nlD)), v11, v12], ⟨_, rfl⟩, ?_, fun env h => h⟩
      rintro j y env hy ⟨v11, rfl⟩
      refine ⟨_, rfl, _, n, ps, rfl, wAs_wD, hG, by omega, by omega, _, rfl, _, m, qs, rfl, wAs_wD, hG2, by omega, by omega, n, ps, m, qs, rfl, hG, hG2, by omega, by omega, by omega, ?_⟩
      refine ⟨_, rfl, ?_⟩
      refine eqd_nil (f := not) (xs := (namL n ps m qs).map nlD) (show pl 60 (.lst _) from pl_map fun r _ => show pl 59 (.lst _) from pl_map fun _ _ => pl_int) ⟨_, rfl, ?_⟩
      by_cases c : (namL n ps m qs).map nlD = []
      · rw [decide_eq_true c]
        have e : naD n ps m qs = .non := by unfold naD; rw [List.map_eq_nil_iff.mp c]
        exact ⟨_, _, rfl, (na_ok (by omega)).1, pl_non, by rw [e], (na_ok (by omega)).2, _, rfl, _, rfl⟩
      · rw [decide_eq_false c]
        refine ⟨_, rfl, _, _, _, rfl, rfl, first fun z => c (by rw [z]; rfl), ?_⟩
        exact ⟨_, _, rfl, (na_ok (by omega)).1, (na_ok (by omega)).1, rfl, (na_ok (by omega)).2, _, rfl, _, rfl⟩
    rintro env ⟨v11, rfl⟩
    refine ⟨_, rfl, _, n, ps, rfl, wAs_wD, hG, by omega, by omega, _, rfl, _, n, ps, rfl, wAs_wD, hG, by omega, by omega, n, ps, n, ps, rfl, hG, hG, by omega, by omega, by omega, ?_⟩
    refine ⟨_, rfl, _, rfl, _, n, ps, n, ps, rfl, wAs_wD, hG.2.1, by omega, by omega, _, _, _, rfl, rfl, first (namL_self hG.2.1), ?_⟩
    exact ⟨_, _, rfl, (na_ok (by omega)).1, (na_ok (by omega)).1, rfl, (na_ok (by omega)).2, _, rfl, _, _, _, _, _, _, _, _, _, _, _, rfl⟩
  rintro env ⟨v2, v3, v4, v5, v6, v7, v8, v9, v10, v11, v12, rfl⟩
  dsimp only [gdName]
  let ps6 : Nat → List (Nat × Nat) := fun t => [(0, 1), (1, 2), (2, 3), (3, 4), (4, 5), (5, 0), (0, 2), (t, 4)]
  refine MS.cut (fun env => ∃ t : Nat, t < 6 ∧ env = [.no, .bag, v2, .d (wT 6 (ps6 t)), v4, v5, v6, v7, v8, v9, v10, v11, v12]) ?_ ?_
  · refine ⟨6, rfl, ⟨by decide, by decide⟩, by decide, lc_map (fun x => match x with | .int i => prD (i.toNat, (i.toNat + 1) % 6) | _ => .non) (fun j y hy => ?_) ?_⟩
    · obtain ⟨lt, rfl⟩ := rg_at hy
      refine ⟨_, rfl, _, rfl, (by decide : (0 : Int) < 6), ?_⟩
      show D.tup [.int (j : Int), .int (((j : Int) + 1) % 6)] = D.tup [.int ((j : Nat) : Int), .int (((j + 1) % 6 : Nat) : Int)]
      rw [show ((j : Int) + 1) % 6 = (((j + 1) % 6 : Nat) : Int) by omega]
    refine ⟨_, rfl, rfl, 6, rfl, by decide, by decide, fun r h0 h1 => ?_⟩
    obtain ⟨r, rfl⟩ := Int.eq_ofNat_of_zero_le h0
    exact ⟨_, _, rfl, rfl, (fun z => nomatch z), (fun z => nomatch z), (by decide : 6 + 2 ≤ 1000000), r, by omega, rfl⟩
  rintro env ⟨t, ht, rfl⟩
  have hG6 : KW.Good 6 (ps6 t) := by
    have z : ∀ t : Fin 6, KW.Good 6 (ps6 t.1) := by
      unfold KW.Good
      decide
    exact z ⟨t, ht⟩
  refine MS.cut (fun env => ∃ rs is : List Nat, (rs.Perm (List.range 6) ∧ is.Perm (List.range (ps6 t).length)) ∧ env = [.no, .bag, v2, .d (wT 6 (ps6 t)), .d (.lst (rs.map natD)), .d (.lst (is.map natD)), v6, v7, v8, v9, v10, v11, v12]) ?_ ?_
  · refine ⟨rfl, _, rfl, _, 6, ps6 t, rfl, wAs_tup, by decide, by show 8 ≤ 500; decide, fun rs is pr pi => ⟨_, rfl, rfl, _, _, rfl, _, _, rfl, rfl, rs, is, ⟨pr, pi⟩, rfl⟩⟩
  rintro env ⟨rs, is, ⟨pr, pi⟩, rfl⟩
  refine MS.cut (fun env => env = [.no, .bag, v2, .d (wT 6 (ps6 t)), .d (.lst (rs.map natD)), .d (.lst (is.map natD)), .d (wD 6 (namP (ps6 t) rs is)), v7, v8, v9, v10, v11, v12]) ?_ ?_
  · exact ⟨_, rfl, _, rfl, _, rfl, _, 6, ps6 t, rs, is, rfl, wAs_tup, hG6, by decide, by show 8 ≤ 400; decide, pr, pi, rfl⟩
  rintro env rfl
  have l8 : (namP (ps6 t) rs is).length = 8 := by
    unfold namP
    rw [List.length_map, List.length_range]
    rfl
  have hG7 := nam_good hG6 pr pi
  have ne : namL 6 (ps6 t) 6 (namP (ps6 t) rs is) ≠ [] := namL_ne pr (nam_perm pi).symm
  refine ⟨_, rfl, _, 6, ps6 t, rfl, wAs_tup, hG6, by decide, by show 8 ≤ 400; decide, _, rfl, _, 6, _, rfl, wAs_wD, hG7, by decide, by omega, 6, ps6 t, 6, _, rfl, hG6, hG7, by decide, by show 8 ≤ 400; decide, by omega, ?_⟩
  refine ⟨_, rfl, _, rfl, _, 6, ps6 t, 6, _, rfl, wAs_tup, hG6.2.1, by decide, by show 8 ≤ 1000; decide, _, _, _, rfl, rfl, first ne, ?_⟩
  exact ⟨_, _, rfl, (na_ok (by decide)).1, (na_ok (by decide)).1, rfl, (na_ok (by decide)).2, rfl⟩
end
end KD
set_option Elab.async false
set_option maxRecDepth 100000
set_option maxHeartbeats 4000000
namespace KW
open PySem PySem.Spec PyProof.Rows L2 LamX
theorem factsM {l : PySem.W.OpenLaw} {w : World} {K : PySem.W.Frag} {h : Heap} {mg : Str → Option Value} {fa : Addr} (X : K.In h) (G : h.Ns mainGlobals mg) (hfa : mg "law" = some (.ref fa)) (c : SaysM faAll fnAll K) :
    ∃ (fd : FuncData) (sp : Sp), (∀ (s : Shared) (u : Value), BindsTo s fd ⟨[u], []⟩ [("_law_script", u)]) ∧ (∀ (H : Hp) (a : Addr) (ns : List Int), ns.length ≤ 63 → Only H → SqL K H a (ns.map V.int) → sp [.ref a] H (fun v _ => v = .bl true) fun _ _ _ => False) ∧ ∀ base : Heap, K.In base → base.Ns mainGlobals mg → FnOk l.prog w K mg base L2.CX0 6 fa fd ["_law_script"] sp := by
  have zlen : PySem.W.nsIn K mainGlobals "len" = some none := of_decide_eq_true (c.fact 0 rfl)
  have glen := PySem.W.mg_none_of X G zlen
  have zlist : PySem.W.nsIn K mainGlobals "list" = some none := of_decide_eq_true (c.fact 1 rfl)
  have glist := PySem.W.mg_none_of X G zlist
  have ztuple : PySem.W.nsIn K mainGlobals "tuple" = some none := of_decide_eq_true (c.fact 2 rfl)
  have gtuple := PySem.W.mg_none_of X G ztuple
  have zrange : PySem.W.nsIn K mainGlobals "range" = some none := of_decide_eq_true (c.fact 3 rfl)
  have grange := PySem.W.mg_none_of X G zrange
  have zenumerate : PySem.W.nsIn K mainGlobals "enumerate" = some none := of_decide_eq_true (c.fact 4 rfl)
  have genumerate := PySem.W.mg_none_of X G zenumerate
  have zisinstance : PySem.W.nsIn K mainGlobals "isinstance" = some none := of_decide_eq_true (c.fact 5 rfl)
  have gisinstance := PySem.W.mg_none_of X G zisinstance
  have zzip : PySem.W.nsIn K mainGlobals "zip" = some none := of_decide_eq_true (c.fact 6 rfl)
  have gzip := PySem.W.mg_none_of X G zzip
  have zall : PySem.W.nsIn K mainGlobals "all" = some none := of_decide_eq_true (c.fact 7 rfl)
  have gall := PySem.W.mg_none_of X G zall
  have zint : PySem.W.nsIn K mainGlobals "int" = some none := of_decide_eq_true (c.fact 8 rfl)
  have gint := PySem.W.mg_none_of X G zint
  have zbool : PySem.W.nsIn K mainGlobals "bool" = some none := of_decide_eq_true (c.fact 9 rfl)
  have gbool := PySem.W.mg_none_of X G zbool
  have zstr : PySem.W.nsIn K mainGlobals "str" = some none := of_decide_eq_true (c.fact 10 rfl)
  have gstr := PySem.W.mg_none_of X G zstr
  have zsorted : PySem.W.nsIn K mainGlobals "sorted" = some none := of_decide_eq_true (c.fact 11 rfl)
  have gsorted := PySem.W.mg_none_of X G zsorted
  have zset : PySem.W.nsIn K mainGlobals "set" = some none := of_decide_eq_true (c.fact 12 rfl)
  have gset := PySem.W.mg_none_of X G zset
  have aC : PySem.W.nsIn K mainGlobals "Web" = some (some (.ref (He.ga K "Web"))) := of_decide_eq_true (c.fact 13 rfl)
  have mC := PySem.W.mg_of X G aC
  have Cpg : PySem.W.plainGet K (He.ga K "Web") Str.empty = true := c.fact 14 rfl
  have Chd : PySem.W.hasDictIn K (He.ga K "Web") = true := c.fact 15 rfl
  have Cpo : PySem.W.plainOver K (He.ga K "Web") = true := c.fact 16 rfl
  have Csa : PySem.W.findIn K (.ref (He.ga K "Web")) "__setattr__" = some (some (.builtin "object.__setattr__")) := of_decide_eq_true (c.fact 17 rfl)
  have Cmk : PySem.W.makesIn K (He.ga K "Web") = true := c.fact 18 rfl
  have Ckc : PySem.W.keepIn K (.ref (He.ga K "Web")) = true := c.fact 19 rfl
  have Cn0 : PySem.W.findIn K (.ref (He.ga K "Web")) "room_total" = some none := of_decide_eq_true (c.fact 20 rfl)
  have Cn1 : PySem.W.findIn K (.ref (He.ga K "Web")) "pairs" = some none := of_decide_eq_true (c.fact 21 rfl)
  have Cn2 : PySem.W.findIn K (.ref (He.ga K "Web")) "leaving" = some none := of_decide_eq_true (c.fact 22 rfl)
  have Cn3 : PySem.W.findIn K (.ref (He.ga K "Web")) "entering" = some none := of_decide_eq_true (c.fact 23 rfl)
  have Ccl : Cls K (He.ga K "Web") := ⟨Cpg, Chd, Cpo, Csa⟩
  have T : WebC K (He.ga K "Web") := ⟨Ccl, Cn0, Cn1, Cn2, Cn3⟩
  have a__law_bag : PySem.W.nsIn K mainGlobals "_law_bag" = some (some (.ref (He.ga K "_law_bag"))) := of_decide_eq_true (c.fact 24 rfl)
  obtain ⟨fd__law_bag, D__law_bag⟩ := c.def_ 0 (d := d__law_bag) rfl
  have F__law_bag : Fun K "_law_bag" "_law_bag" sBag (He.ga K "_law_bag") fd__law_bag := fun_of D__law_bag
  have k__law_bag := F__law_bag.kp
  have b__law_bag := F__law_bag.binds (ps := ["_law_script"]) fun _ _ _ _ _ _ us hl => match us, hl with | [_], _ => rfl
  have m__law_bag := PySem.W.mg_of X G a__law_bag
  have a__law_web : PySem.W.nsIn K mainGlobals "_law_web" = some (some (.ref (He.ga K "_law_web"))) := of_decide_eq_true (c.fact 25 rfl)
  obtain ⟨fd__law_web, D__law_web⟩ := c.def_ 1 (d := d__law_web) rfl
  have F__law_web : Fun K "_law_web" "_law_web" sWeb (He.ga K "_law_web") fd__law_web := fun_of D__law_web
  have k__law_web := F__law_web.kp
  have b__law_web := F__law_web.binds (ps := ["_law_bag_here", "_law_rooms_most", "_law_more_most"]) fun _ _ _ _ _ _ us hl => match us, hl with | [_, _, _], _ => rfl
  have m__law_web := PySem.W.mg_of X G a__law_web
  have a__law_pull : PySem.W.nsIn K mainGlobals "_law_pull" = some (some (.ref (He.ga K "_law_pull"))) := of_decide_eq_true (c.fact 26 rfl)
  obtain ⟨fd__law_pull, D__law_pull⟩ := c.def_ 2 (d := d__law_pull) rfl
  have F__law_pull : Fun K "_law_pull" "_law_pull" sPull (He.ga K "_law_pull") fd__law_pull := fun_of D__law_pull
  have k__law_pull := F__law_pull.kp
  have b__law_pull := F__law_pull.binds (ps := ["_law_bag_here", "_law_many"]) fun _ _ _ _ _ _ us hl => match us, hl with | [_, _], _ => rfl
  have m__law_pull := PySem.W.mg_of X G a__law_pull
  have a__law_mixed : PySem.W.nsIn K mainGlobals "_law_mixed" = some (some (.ref (He.ga K "_law_mixed"))) := of_decide_eq_true (c.fact 27 rfl)
  obtain ⟨fd__law_mixed, D__law_mixed⟩ := c.def_ 3 (d := d__law_mixed) rfl
  have F__law_mixed : Fun K "_law_mixed" "_law_mixed" sMixed (He.ga K "_law_mixed") fd__law_mixed := fun_of D__law_mixed
  have k__law_mixed := F__law_mixed.kp
  have b__law_mixed := F__law_mixed.binds (ps := ["_law_bag_here", "_law_some"]) fun _ _ _ _ _ _ us hl => match us, hl with | [_, _], _ => rfl
  have m__law_mixed := PySem.W.mg_of X G a__law_mixed
  have a__law_naming : PySem.W.nsIn K mainGlobals "_law_naming" = some (some (.ref (He.ga K "_law_naming"))) := of_decide_eq_true (c.fact 28 rfl)
  obtain ⟨fd__law_naming, D__law_naming⟩ := c.def_ 4 (d := d__law_naming) rfl
  have F__law_naming : Fun K "_law_naming" "_law_naming" KD.sLawNaming (He.ga K "_law_naming") fd__law_naming := fun_of D__law_naming
  have k__law_naming := F__law_naming.kp
  have b__law_naming := F__law_naming.binds (ps := ["_law_bag_here", "_law_w"]) fun _ _ _ _ _ _ us hl => match us, hl with | [_, _], _ => rfl
  have m__law_naming := PySem.W.mg_of X G a__law_naming
  have a__law_named : PySem.W.nsIn K mainGlobals "_law_named" = some (some (.ref (He.ga K "_law_named"))) := of_decide_eq_true (c.fact 29 rfl)
  obtain ⟨fd__law_named, D__law_named⟩ := c.def_ 5 (d := d__law_named) rfl
  have F__law_named : Fun K "_law_named" "_law_named" KD.sLawNamed (He.ga K "_law_named") fd__law_named := fun_of D__law_named
  have k__law_named := F__law_named.kp
  have b__law_named := F__law_named.binds (ps := ["_law_w", "_law_rooms", "_law_arrows"]) fun _ _ _ _ _ _ us hl => match us, hl with | [_, _, _], _ => rfl
  have m__law_named := PySem.W.mg_of X G a__law_named
  have a__law_namings : PySem.W.nsIn K mainGlobals "_law_namings" = some (some (.ref (He.ga K "_law_namings"))) := of_decide_eq_true (c.fact 30 rfl)
  obtain ⟨fd__law_namings, D__law_namings⟩ := c.def_ 6 (d := d__law_namings) rfl
  have F__law_namings : Fun K "_law_namings" "_law_namings" KD.sLawNamings (He.ga K "_law_namings") fd__law_namings := fun_of D__law_namings
  have k__law_namings := F__law_namings.kp
  have b__law_namings := F__law_namings.binds (ps := ["_law_w", "_law_v"]) fun _ _ _ _ _ _ us hl => match us, hl with | [_, _], _ => rfl
  have m__law_namings := PySem.W.mg_of X G a__law_namings
  have a__law_orders : PySem.W.nsIn K mainGlobals "_law_orders" = some (some (.ref (He.ga K "_law_orders"))) := of_decide_eq_true (c.fact 31 rfl)
  obtain ⟨fd__law_orders, D__law_orders⟩ := c.def_ 7 (d := d__law_orders) rfl
  have F__law_orders : Fun K "_law_orders" "_law_orders" KD.sLawOrders (He.ga K "_law_orders") fd__law_orders := fun_of D__law_orders
  have k__law_orders := F__law_orders.kp
  have b__law_orders := F__law_orders.binds (ps := ["_law_many"]) fun _ _ _ _ _ _ us hl => match us, hl with | [_], _ => rfl
  have m__law_orders := PySem.W.mg_of X G a__law_orders
  have a__law_same : PySem.W.nsIn K mainGlobals "_law_same" = some (some (.ref (He.ga K "_law_same"))) := of_decide_eq_true (c.fact 32 rfl)
  obtain ⟨fd__law_same, D__law_same⟩ := c.def_ 8 (d := d__law_same) rfl
  have F__law_same : Fun K "_law_same" "_law_same" sSame (He.ga K "_law_same") fd__law_same := fun_of D__law_same
  have k__law_same := F__law_same.kp
  have b__law_same := F__law_same.binds (ps := ["_law_found", "_law_due"]) fun _ _ _ _ _ _ us hl => match us, hl with | [_, _], _ => rfl
  have m__law_same := PySem.W.mg_of X G a__law_same
  have a_naming : PySem.W.nsIn K mainGlobals "naming" = some (some (.ref (He.ga K "naming"))) := of_decide_eq_true (c.fact 33 rfl)
  obtain ⟨fd_naming, D_naming⟩ := c.def_ 9 (d := d_naming) rfl
  have F_naming : Fun K "naming" "naming" KD.sNaming (He.ga K "naming") fd_naming := fun_of D_naming
  have k_naming := F_naming.kp
  have b_naming := F_naming.binds (ps := ["one", "other"]) fun _ _ _ _ _ _ us hl => match us, hl with | [_, _], _ => rfl
  have m_naming := PySem.W.mg_of X G a_naming
  have a_neighbours : PySem.W.nsIn K mainGlobals "neighbours" = some (some (.ref (He.ga K "neighbours"))) := of_decide_eq_true (c.fact 34 rfl)
  obtain ⟨fd_neighbours, D_neighbours⟩ := c.def_ 10 (d := d_neighbours) rfl
  have F_neighbours : Fun K "neighbours" "neighbours" KD.sNeighbours (He.ga K "neighbours") fd_neighbours := fun_of D_neighbours
  have k_neighbours := F_neighbours.kp
  have b_neighbours := F_neighbours.binds (ps := ["web"]) fun _ _ _ _ _ _ us hl => match us, hl with | [_], _ => rfl
  have m_neighbours := PySem.W.mg_of X G a_neighbours
  have a_Web_rooms : PySem.W.findIn K (.ref (He.ga K "Web")) "rooms" = some (some (.ref (He.ma K (He.ga K "Web") "rooms"))) := of_decide_eq_true (c.fact 35 rfl)
  have i_Web_rooms : PySem.W.isFn K (.ref (He.ma K (He.ga K "Web") "rooms")) = true := c.fact 36 rfl
  obtain ⟨fd_Web_rooms, D_Web_rooms⟩ := c.def_ 11 (d := d_Web_rooms) rfl
  have F_Web_rooms : Fun K "rooms" "Web.rooms" sRooms (He.ma K (He.ga K "Web") "rooms") fd_Web_rooms := fun_of D_Web_rooms
  have k_Web_rooms := F_Web_rooms.kp
  have b_Web_rooms := F_Web_rooms.binds (ps := ["self"]) fun _ _ _ _ _ _ us hl => match us, hl with | [_], _ => rfl
  have m_Web_rooms : Meth K (He.ga K "Web") "rooms" (He.ma K (He.ga K "Web") "rooms") := ⟨a_Web_rooms, i_Web_rooms, k_Web_rooms⟩
  have a_Web_ins : PySem.W.findIn K (.ref (He.ga K "Web")) "ins" = some (some (.ref (He.ma K (He.ga K "Web") "ins"))) := of_decide_eq_true (c.fact 37 rfl)
  have i_Web_ins : PySem.W.isFn K (.ref (He.ma K (He.ga K "Web") "ins")) = true := c.fact 38 rfl
  obtain ⟨fd_Web_ins, D_Web_ins⟩ := c.def_ 12 (d := d_Web_ins) rfl
  have F_Web_ins : Fun K "ins" "Web.ins" sIns (He.ma K (He.ga K "Web") "ins") fd_Web_ins := fun_of D_Web_ins
  have k_Web_ins := F_Web_ins.kp
  have b_Web_ins := F_Web_ins.binds (ps := ["self", "room"]) fun _ _ _ _ _ _ us hl => match us, hl with | [_, _], _ => rfl
  have m_Web_ins : Meth K (He.ga K "Web") "ins" (He.ma K (He.ga K "Web") "ins") := ⟨a_Web_ins, i_Web_ins, k_Web_ins⟩
  have a_Web_need_room : PySem.W.findIn K (.ref (He.ga K "Web")) "need_room" = some (some (.ref (He.ma K (He.ga K "Web") "need_room"))) := of_decide_eq_true (c.fact 39 rfl)
  have i_Web_need_room : PySem.W.isFn K (.ref (He.ma K (He.ga K "Web") "need_room")) = true := c.fact 40 rfl
  obtain ⟨fd_Web_need_room, D_Web_need_room⟩ := c.def_ 13 (d := d_Web_need_room) rfl
  have F_Web_need_room : Fun K "need_room" "Web.need_room" sNeedR (He.ma K (He.ga K "Web") "need_room") fd_Web_need_room := fun_of D_Web_need_room
  have k_Web_need_room := F_Web_need_room.kp
  have b_Web_need_room := F_Web_need_room.binds (ps := ["self", "room"]) fun _ _ _ _ _ _ us hl => match us, hl with | [_, _], _ => rfl
  have m_Web_need_room : Meth K (He.ga K "Web") "need_room" (He.ma K (He.ga K "Web") "need_room") := ⟨a_Web_need_room, i_Web_need_room, k_Web_need_room⟩
  have a_Web_begin : PySem.W.findIn K (.ref (He.ga K "Web")) "begin" = some (some (.ref (He.ma K (He.ga K "Web") "begin"))) := of_decide_eq_true (c.fact 41 rfl)
  have i_Web_begin : PySem.W.isFn K (.ref (He.ma K (He.ga K "Web") "begin")) = true := c.fact 42 rfl
  obtain ⟨fd_Web_begin, D_Web_begin⟩ := c.def_ 14 (d := d_Web_begin) rfl
  have F_Web_begin : Fun K "begin" "Web.begin" sBegin (He.ma K (He.ga K "Web") "begin") fd_Web_begin := fun_of D_Web_begin
  have k_Web_begin := F_Web_begin.kp
  have b_Web_begin := F_Web_begin.binds (ps := ["self", "arrow"]) fun _ _ _ _ _ _ us hl => match us, hl with | [_, _], _ => rfl
  have m_Web_begin : Meth K (He.ga K "Web") "begin" (He.ma K (He.ga K "Web") "begin") := ⟨a_Web_begin, i_Web_begin, k_Web_begin⟩
  have a_Web_need_arrow : PySem.W.findIn K (.ref (He.ga K "Web")) "need_arrow" = some (some (.ref (He.ma K (He.ga K "Web") "need_arrow"))) := of_decide_eq_true (c.fact 43 rfl)
  have i_Web_need_arrow : PySem.W.isFn K (.ref (He.ma K (He.ga K "Web") "need_arrow")) = true := c.fact 44 rfl
  obtain ⟨fd_Web_need_arrow, D_Web_need_arrow⟩ := c.def_ 15 (d := d_Web_need_arrow) rfl
  have F_Web_need_arrow : Fun K "need_arrow" "Web.need_arrow" sNeedA (He.ma K (He.ga K "Web") "need_arrow") fd_Web_need_arrow := fun_of D_Web_need_arrow
  have k_Web_need_arrow := F_Web_need_arrow.kp
  have b_Web_need_arrow := F_Web_need_arrow.binds (ps := ["self", "arrow"]) fun _ _ _ _ _ _ us hl => match us, hl with | [_, _], _ => rfl
  have m_Web_need_arrow : Meth K (He.ga K "Web") "need_arrow" (He.ma K (He.ga K "Web") "need_arrow") := ⟨a_Web_need_arrow, i_Web_need_arrow, k_Web_need_arrow⟩
  have a_Web_has_arrow : PySem.W.findIn K (.ref (He.ga K "Web")) "has_arrow" = some (some (.ref (He.ma K (He.ga K "Web") "has_arrow"))) := of_decide_eq_true (c.fact 45 rfl)
  have i_Web_has_arrow : PySem.W.isFn K (.ref (He.ma K (He.ga K "Web") "has_arrow")) = true := c.fact 46 rfl
  obtain ⟨fd_Web_has_arrow, D_Web_has_arrow⟩ := c.def_ 16 (d := d_Web_has_arrow) rfl
  have F_Web_has_arrow : Fun K "has_arrow" "Web.has_arrow" sHas (He.ma K (He.ga K "Web") "has_arrow") fd_Web_has_arrow := fun_of D_Web_has_arrow
  have k_Web_has_arrow := F_Web_has_arrow.kp
  have b_Web_has_arrow := F_Web_has_arrow.binds (ps := ["self", "arrow"]) fun _ _ _ _ _ _ us hl => match us, hl with | [_, _], _ => rfl
  have m_Web_has_arrow : Meth K (He.ga K "Web") "has_arrow" (He.ma K (He.ga K "Web") "has_arrow") := ⟨a_Web_has_arrow, i_Web_has_arrow, k_Web_has_arrow⟩
  have a_Web_outs : PySem.W.findIn K (.ref (He.ga K "Web")) "outs" = some (some (.ref (He.ma K (He.ga K "Web") "outs"))) := of_decide_eq_true (c.fact 47 rfl)
  have i_Web_outs : PySem.W.isFn K (.ref (He.ma K (He.ga K "Web") "outs")) = true := c.fact 48 rfl
  obtain ⟨fd_Web_outs, D_Web_outs⟩ := c.def_ 17 (d := d_Web_outs) rfl
  have F_Web_outs : Fun K "outs" "Web.outs" sOuts (He.ma K (He.ga K "Web") "outs") fd_Web_outs := fun_of D_Web_outs
  have k_Web_outs := F_Web_outs.kp
  have b_Web_outs := F_Web_outs.binds (ps := ["self", "room"]) fun _ _ _ _ _ _ us hl => match us, hl with | [_, _], _ => rfl
  have m_Web_outs : Meth K (He.ga K "Web") "outs" (He.ma K (He.ga K "Web") "outs") := ⟨a_Web_outs, i_Web_outs, k_Web_outs⟩
  have a_Web_end : PySem.W.findIn K (.ref (He.ga K "Web")) "end" = some (some (.ref (He.ma K (He.ga K "Web") "end"))) := of_decide_eq_true (c.fact 49 rfl)
  have i_Web_end : PySem.W.isFn K (.ref (He.ma K (He.ga K "Web") "end")) = true := c.fact 50 rfl
  obtain ⟨fd_Web_end, D_Web_end⟩ := c.def_ 18 (d := d_Web_end) rfl
  have F_Web_end : Fun K "end" "Web.end" sEnd (He.ma K (He.ga K "Web") "end") fd_Web_end := fun_of D_Web_end
  have k_Web_end := F_Web_end.kp
  have b_Web_end := F_Web_end.binds (ps := ["self", "arrow"]) fun _ _ _ _ _ _ us hl => match us, hl with | [_, _], _ => rfl
  have m_Web_end : Meth K (He.ga K "Web") "end" (He.ma K (He.ga K "Web") "end") := ⟨a_Web_end, i_Web_end, k_Web_end⟩
  have a_coloured : PySem.W.nsIn K mainGlobals "coloured" = some (some (.ref (He.ga K "coloured"))) := of_decide_eq_true (c.fact 51 rfl)
  obtain ⟨fd_coloured, D_coloured⟩ := c.def_ 19 (d := d_coloured) rfl
  have F_coloured : Fun K "coloured" "coloured" KD.sColoured (He.ga K "coloured") fd_coloured := fun_of D_coloured
  have k_coloured := F_coloured.kp
  have b_coloured := F_coloured.binds (ps := ["near", "far", "ones", "others"]) fun _ _ _ _ _ _ us hl => match us, hl with | [_, _, _, _], _ => rfl
  have m_coloured := PySem.W.mg_of X G a_coloured
  have a_looks_of : PySem.W.nsIn K mainGlobals "looks_of" = some (some (.ref (He.ga K "looks_of"))) := of_decide_eq_true (c.fact 52 rfl)
  obtain ⟨fd_looks_of, D_looks_of⟩ := c.def_ 20 (d := d_looks_of) rfl
  have F_looks_of : Fun K "looks_of" "looks_of" KD.sLooksOf (He.ga K "looks_of") fd_looks_of := fun_of D_looks_of
  have k_looks_of := F_looks_of.kp
  have b_looks_of := F_looks_of.binds (ps := ["near", "colours"]) fun _ _ _ _ _ _ us hl => match us, hl with | [_, _], _ => rfl
  have m_looks_of := PySem.W.mg_of X G a_looks_of
  have a_further : PySem.W.nsIn K mainGlobals "further" = some (some (.ref (He.ga K "further"))) := of_decide_eq_true (c.fact 53 rfl)
  obtain ⟨fd_further, D_further⟩ := c.def_ 21 (d := d_further) rfl
  have F_further : Fun K "further" "further" KD.sFurther (He.ga K "further") fd_further := fun_of D_further
  have k_further := F_further.kp
  have b_further := F_further.binds (ps := ["names", "ones", "others"]) fun _ _ _ _ _ _ us hl => match us, hl with | [_, _, _], _ => rfl
  have m_further := PySem.W.mg_of X G a_further
  have a_with_colour : PySem.W.nsIn K mainGlobals "with_colour" = some (some (.ref (He.ga K "with_colour"))) := of_decide_eq_true (c.fact 54 rfl)
  obtain ⟨fd_with_colour, D_with_colour⟩ := c.def_ 22 (d := d_with_colour) rfl
  have F_with_colour : Fun K "with_colour" "with_colour" KD.sWithColour (He.ga K "with_colour") fd_with_colour := fun_of D_with_colour
  have k_with_colour := F_with_colour.kp
  have b_with_colour := F_with_colour.binds (ps := ["colours", "room", "colour"]) fun _ _ _ _ _ _ us hl => match us, hl with | [_, _, _], _ => rfl
  have m_with_colour := PySem.W.mg_of X G a_with_colour
  have a_Web_leading : PySem.W.findIn K (.ref (He.ga K "Web")) "leading" = some (some (.ref (He.ma K (He.ga K "Web") "leading"))) := of_decide_eq_true (c.fact 55 rfl)
  have i_Web_leading : PySem.W.isFn K (.ref (He.ma K (He.ga K "Web") "leading")) = true := c.fact 56 rfl
  obtain ⟨fd_Web_leading, D_Web_leading⟩ := c.def_ 23 (d := d_Web_leading) rfl
  have F_Web_leading : Fun K "leading" "Web.leading" sLeading (He.ma K (He.ga K "Web") "leading") fd_Web_leading := fun_of D_Web_leading
  have k_Web_leading := F_Web_leading.kp
  have b_Web_leading := F_Web_leading.binds (ps := ["self", "one", "other"]) fun _ _ _ _ _ _ us hl => match us, hl with | [_, _, _], _ => rfl
  have m_Web_leading : Meth K (He.ga K "Web") "leading" (He.ma K (He.ga K "Web") "leading") := ⟨a_Web_leading, i_Web_leading, k_Web_leading⟩
  have a__law_made : PySem.W.nsIn K mainGlobals "_law_made" = some (some (.ref (He.ga K "_law_made"))) := of_decide_eq_true (c.fact 57 rfl)
  obtain ⟨fd__law_made, D__law_made⟩ := c.def_ 24 (d := d__law_made) rfl
  have F__law_made : Fun K "_law_made" "_law_made" KD.sLawMade (He.ga K "_law_made") fd__law_made := fun_of D__law_made
  have k__law_made := F__law_made.kp
  have b__law_made := F__law_made.binds (ps := ["_law_w"]) fun _ _ _ _ _ _ us hl => match us, hl with | [_], _ => rfl
  have m__law_made := PySem.W.mg_of X G a__law_made
  have a_Web___init__ : PySem.W.findIn K (.ref (He.ga K "Web")) "__init__" = some (some (.ref (He.ma K (He.ga K "Web") "__init__"))) := of_decide_eq_true (c.fact 58 rfl)
  have i_Web___init__ : PySem.W.isFn K (.ref (He.ma K (He.ga K "Web") "__init__")) = true := c.fact 59 rfl
  obtain ⟨fd_Web___init__, D_Web___init__⟩ := c.def_ 25 (d := d_Web___init__) rfl
  have F_Web___init__ : Fun K "__init__" "Web.__init__" sInit (He.ma K (He.ga K "Web") "__init__") fd_Web___init__ := fun_of D_Web___init__
  have k_Web___init__ := F_Web___init__.kp
  have b_Web___init__ := F_Web___init__.binds (ps := ["self", "rooms", "arrows"]) fun _ _ _ _ _ _ us hl => match us, hl with | [_, _, _], _ => rfl
  have m_Web___init__ : Meth K (He.ga K "Web") "__init__" (He.ma K (He.ga K "Web") "__init__") := ⟨a_Web___init__, i_Web___init__, k_Web___init__⟩
  have a_pairs_of : PySem.W.nsIn K mainGlobals "pairs_of" = some (some (.ref (He.ga K "pairs_of"))) := of_decide_eq_true (c.fact 60 rfl)
  obtain ⟨fd_pairs_of, D_pairs_of⟩ := c.def_ 26 (d := d_pairs_of) rfl
  have F_pairs_of : Fun K "pairs_of" "pairs_of" sPairsOf (He.ga K "pairs_of") fd_pairs_of := fun_of D_pairs_of
  have k_pairs_of := F_pairs_of.kp
  have b_pairs_of := F_pairs_of.binds (ps := ["rooms", "arrows"]) fun _ _ _ _ _ _ us hl => match us, hl with | [_, _], _ => rfl
  have m_pairs_of := PySem.W.mg_of X G a_pairs_of
  have a_is_pair : PySem.W.nsIn K mainGlobals "is_pair" = some (some (.ref (He.ga K "is_pair"))) := of_decide_eq_true (c.fact 61 rfl)
  obtain ⟨fd_is_pair, D_is_pair⟩ := c.def_ 27 (d := d_is_pair) rfl
  have F_is_pair : Fun K "is_pair" "is_pair" sIsPair (He.ga K "is_pair") fd_is_pair := fun_of D_is_pair
  have k_is_pair := F_is_pair.kp
  have b_is_pair := F_is_pair.binds (ps := ["thing", "rooms"]) fun _ _ _ _ _ _ us hl => match us, hl with | [_, _], _ => rfl
  have m_is_pair := PySem.W.mg_of X G a_is_pair
  have a_gathered : PySem.W.nsIn K mainGlobals "gathered" = some (some (.ref (He.ga K "gathered"))) := of_decide_eq_true (c.fact 62 rfl)
  obtain ⟨fd_gathered, D_gathered⟩ := c.def_ 28 (d := d_gathered) rfl
  have F_gathered : Fun K "gathered" "gathered" sGathered (He.ga K "gathered") fd_gathered := fun_of D_gathered
  have k_gathered := F_gathered.kp
  have b_gathered := F_gathered.binds (ps := ["rooms", "places"]) fun _ _ _ _ _ _ us hl => match us, hl with | [_, _], _ => rfl
  have m_gathered := PySem.W.mg_of X G a_gathered
  obtain ⟨tmr, mr⟩ := He.int_ok (x := "MOST_ROOMS") (i := (100)) X G (c.fact 63 rfl)
  obtain ⟨tma, ma⟩ := He.int_ok (x := "MOST_ARROWS") (i := (400)) X G (c.fact 64 rfl)
  obtain ⟨ti_MOST_TREE, i_MOST_TREE⟩ := He.int_ok (x := "MOST_TREE") (i := (8000)) X G (c.fact 65 rfl)
  have aLW : PySem.W.nsIn K mainGlobals "law" = some (some (.ref (He.ga K "law"))) := of_decide_eq_true (c.fact 66 rfl)
  obtain ⟨fdLW, DLW⟩ := c.def_ 29 (d := dLW) rfl
  have FLW : Fun K "law" "law" KD.sLaw (He.ga K "law") fdLW := fun_of DLW
  have kLW := FLW.kp
  have bLW := FLW.binds (ps := ["_law_script"]) fun _ _ _ _ _ _ us hl => match us, hl with | [_], _ => rfl
  have mLW := PySem.W.mg_of X G aLW
  obtain ⟨ocL, odL, kVL, docL, pmL, anL, cdL, ctL, slL, eL0, lkL, cdeL⟩ := FLW.ex
  have eLaw := hfa.symm.trans mLW
  cases eLaw
  have MI : Mk K (He.ga K "Web") (He.ma K (He.ga K "Web") "__init__") := ⟨Cmk, a_Web___init__, i_Web___init__, Ckc⟩
  subst eL0
  refine ⟨PySem.W.fnOf "law" "law" (defArgs KD.sLaw) (defBody KD.sLaw) (defScope KD.sLaw) .none kVL docL pmL anL cdL ctL, KD.spLaw K, fun s v => .of_eq rfl, fun H a ns _ _ hS => ⟨a, ns, rfl, hS, fun _ => rfl⟩, fun base _ _ => ?_⟩
  have M : SameM mg := ⟨gisinstance, glist, gtuple, glen, gall, gzip, gbool, gint, gstr⟩
  have W : KD.WebΩ (KD.ΩN l.prog w (He.ga K "Web")) (He.ga K "Web") := KD.ΩN_web
  have Nω : KD.NdΩ (KD.ΩN l.prog w (He.ga K "Web")) l.prog w := KD.ΩN_nd
  have G__law_bag := ok_bag (P := l.prog) (w := w) (mg := mg) (base := base) F__law_bag glist
  have c__law_bag_spBagK : KD.Cal l.prog w K mg base CX0 1 "_law_bag" ["_law_script"] (spBag K) := ⟨_, _, G__law_bag, b__law_bag, m__law_bag, k__law_bag⟩
  have G__law_pull := ok_pull (P := l.prog) (w := w) (mg := mg) (base := base) F__law_pull glen
  have G__law_mixed := ok_mixed F__law_mixed G__law_pull b__law_pull m__law_pull k__law_pull glen glist grange
  have G__law_web := ok_web F__law_web G__law_pull b__law_pull m__law_pull k__law_pull G__law_mixed b__law_mixed m__law_mixed k__law_mixed grange gtuple
  have c__law_web_spBΩmfWeb : KD.Cal l.prog w K mg base CX0 3 "_law_web" ["_law_bag_here", "_law_rooms_most", "_law_more_most"] (KD.spB (KD.ΩN l.prog w (He.ga K "Web")) KD.mfWeb) := ⟨_, _, KD.d_web G__law_web, b__law_web, m__law_web, k__law_web⟩
  have c__law_mixed_spBOΩmfMixed : KD.Cal l.prog w K mg base CX0 2 "_law_mixed" ["_law_bag_here", "_law_some"] (KD.spBO (KD.ΩN l.prog w (He.ga K "Web")) KD.mfMixed) := ⟨_, _, KD.d_mixed G__law_mixed, b__law_mixed, m__law_mixed, k__law_mixed⟩
  have c__law_naming_spBΩmfLawNamingA : KD.Cal l.prog w K mg base CX0 3 "_law_naming" ["_law_bag_here", "_law_w"] (KD.spB (KD.ΩN l.prog w (He.ga K "Web")) KD.mfLawNamingA) := KD.cal_LawNamingA F__law_naming b__law_naming m__law_naming k__law_naming c__law_mixed_spBOΩmfMixed glen glist grange
  have c__law_named_spDΩmfLawNamedA : KD.Cal l.prog w K mg base CX0 1 "_law_named" ["_law_w", "_law_rooms", "_law_arrows"] (KD.spD (KD.ΩN l.prog w (He.ga K "Web")) KD.mfLawNamedA) := KD.cal_LawNamedA F__law_named b__law_named m__law_named k__law_named genumerate glen gtuple
  have c__law_pull_spBΩmfPull : KD.Cal l.prog w K mg base CX0 1 "_law_pull" ["_law_bag_here", "_law_many"] (KD.spB (KD.ΩN l.prog w (He.ga K "Web")) KD.mfPull) := ⟨_, _, KD.d_pull G__law_pull, b__law_pull, m__law_pull, k__law_pull⟩
  have c__law_orders_spDΩmfLawOrders : KD.Cal l.prog w K mg base CX0 1 "_law_orders" ["_law_many"] (KD.spD (KD.ΩN l.prog w (He.ga K "Web")) KD.mfLawOrders) := KD.cal_LawOrders F__law_orders b__law_orders m__law_orders k__law_orders grange
  have c__law_namings_spOΩmfLawNamingsA : KD.Cal l.prog w K mg base CX0 2 "_law_namings" ["_law_w", "_law_v"] (KD.spO (KD.ΩN l.prog w (He.ga K "Web")) KD.mfLawNamingsA) := KD.cal_LawNamingsA F__law_namings b__law_namings m__law_namings k__law_namings c__law_orders_spDΩmfLawOrders glen glist gsorted
  have G__law_same := ok_same (P := l.prog) (w := w) (mg := mg) (base := base) F__law_same M b__law_same m__law_same k__law_same 3
  have c__law_same_spDΩmfSame : KD.Cal l.prog w K mg base CX0 4 "_law_same" ["_law_found", "_law_due"] (KD.spD (KD.ΩN l.prog w (He.ga K "Web")) KD.mfSame) := ⟨_, _, KD.d_same G__law_same, b__law_same, m__law_same, k__law_same⟩
  have G_Web_rooms := ok_rooms (P := l.prog) (w := w) (mg := mg) (base := base) F_Web_rooms T
  have c_Web_rooms_spDΩmfRooms : KD.CalM l.prog w K mg base CX0 1 (He.ga K "Web") "rooms" ["self"] (KD.spD (KD.ΩN l.prog w (He.ga K "Web")) KD.mfRooms) := ⟨_, _, KD.d_rooms W G_Web_rooms, b_Web_rooms, m_Web_rooms⟩
  have G_Web_need_room := ok_need_room (P := l.prog) (w := w) (mg := mg) (base := base) F_Web_need_room T
  have G_Web_ins := ok_ins F_Web_ins T G_Web_need_room b_Web_need_room m_Web_need_room glist
  have c_Web_ins_spOΩmfIns : KD.CalM l.prog w K mg base CX0 2 (He.ga K "Web") "ins" ["self", "room"] (KD.spO (KD.ΩN l.prog w (He.ga K "Web")) KD.mfIns) := ⟨_, _, KD.d_ins W G_Web_ins, b_Web_ins, m_Web_ins⟩
  have G_Web_has_arrow := ok_has (P := l.prog) (w := w) (mg := mg) (base := base) F_Web_has_arrow T glen
  have G_Web_need_arrow := ok_need_arrow F_Web_need_arrow T G_Web_has_arrow b_Web_has_arrow m_Web_has_arrow
  have G_Web_begin := ok_begin F_Web_begin T G_Web_need_arrow b_Web_need_arrow m_Web_need_arrow
  have c_Web_begin_spDΩmfBegin : KD.CalM l.prog w K mg base CX0 3 (He.ga K "Web") "begin" ["self", "arrow"] (KD.spD (KD.ΩN l.prog w (He.ga K "Web")) KD.mfBegin) := ⟨_, _, KD.d_begin W G_Web_begin, b_Web_begin, m_Web_begin⟩
  have G_Web_outs := ok_outs F_Web_outs T G_Web_need_room b_Web_need_room m_Web_need_room glist
  have c_Web_outs_spOΩmfOuts : KD.CalM l.prog w K mg base CX0 2 (He.ga K "Web") "outs" ["self", "room"] (KD.spO (KD.ΩN l.prog w (He.ga K "Web")) KD.mfOuts) := ⟨_, _, KD.d_outs W G_Web_outs, b_Web_outs, m_Web_outs⟩
  have G_Web_end := ok_end F_Web_end T G_Web_need_arrow b_Web_need_arrow m_Web_need_arrow
  have c_Web_end_spDΩmfEnd : KD.CalM l.prog w K mg base CX0 3 (He.ga K "Web") "end" ["self", "arrow"] (KD.spD (KD.ΩN l.prog w (He.ga K "Web")) KD.mfEnd) := ⟨_, _, KD.d_end W G_Web_end, b_Web_end, m_Web_end⟩
  have c_neighbours_spOΩmfNeighbours : KD.Cal l.prog w K mg base CX0 4 "neighbours" ["web"] (KD.spO (KD.ΩN l.prog w (He.ga K "Web")) KD.mfNeighbours) := KD.cal_Neighbours F_neighbours b_neighbours m_neighbours k_neighbours c_Web_rooms_spDΩmfRooms c_Web_ins_spOΩmfIns c_Web_begin_spDΩmfBegin c_Web_outs_spOΩmfOuts c_Web_end_spDΩmfEnd T W grange
  have c_looks_of_spOΩmfLooksOf : KD.Cal l.prog w K mg base CX0 1 "looks_of" ["near", "colours"] (KD.spO (KD.ΩN l.prog w (He.ga K "Web")) KD.mfLooksOf) := KD.cal_LooksOf F_looks_of b_looks_of m_looks_of k_looks_of genumerate gsorted gtuple
  have c_coloured_spDΩmfColoured : KD.Cal l.prog w K mg base CX0 2 "coloured" ["near", "far", "ones", "others"] (KD.spD (KD.ΩN l.prog w (He.ga K "Web")) KD.mfColoured) := KD.cal_Coloured F_coloured b_coloured m_coloured k_coloured c_looks_of_spOΩmfLooksOf Nω genumerate glen gset gsorted
  have c_with_colour_spOΩmfWithColour : KD.Cal l.prog w K mg base CX0 1 "with_colour" ["colours", "room", "colour"] (KD.spO (KD.ΩN l.prog w (He.ga K "Web")) KD.mfWithColour) := KD.cal_WithColour F_with_colour b_with_colour m_with_colour k_with_colour
  have c_further_spOΩmfFurther : KD.Cal l.prog w K mg base CX0 2 "further" ["names", "ones", "others"] (KD.spO (KD.ΩN l.prog w (He.ga K "Web")) KD.mfFurther) := KD.cal_Further F_further b_further m_further k_further c_with_colour_spOΩmfWithColour glen grange
  have G_Web_leading := ok_leading F_Web_leading T G_Web_need_room b_Web_need_room m_Web_need_room
  have c_Web_leading_spDΩmfLeading : KD.CalM l.prog w K mg base CX0 2 (He.ga K "Web") "leading" ["self", "one", "other"] (KD.spD (KD.ΩN l.prog w (He.ga K "Web")) KD.mfLeading) := ⟨_, _, KD.d_leading W G_Web_leading, b_Web_leading, m_Web_leading⟩
  have c_naming_spDΩmfNaming : KD.Cal l.prog w K mg base CX0 5 "naming" ["one", "other"] (KD.spD (KD.ΩN l.prog w (He.ga K "Web")) KD.mfNaming) := KD.cal_Naming F_naming b_naming m_naming k_naming c_neighbours_spOΩmfNeighbours c_coloured_spDΩmfColoured c_further_spOΩmfFurther c_Web_rooms_spDΩmfRooms c_Web_leading_spDΩmfLeading T W ⟨_, i_MOST_TREE⟩ glen glist grange
  have G_is_pair := ok_is_pair (P := l.prog) (w := w) (mg := mg) (base := base) F_is_pair glen
  have G_pairs_of := ok_pairs_of F_pairs_of G_is_pair b_is_pair m_is_pair k_is_pair genumerate gtuple ma
  have G_gathered := ok_gathered (P := l.prog) (w := w) (mg := mg) (base := base) F_gathered grange genumerate gtuple
  have G_Web___init__ := ok_init F_Web___init__ T G_pairs_of b_pairs_of m_pairs_of k_pairs_of G_gathered b_gathered m_gathered k_gathered mr
  have c__law_made_spDΩmfMadeS : KD.Cal l.prog w K mg base CX0 5 "_law_made" ["_law_w"] (KD.spD (KD.ΩN l.prog w (He.ga K "Web")) KD.mfMadeS) := KD.cal_LawMade F__law_made b__law_made m__law_made k__law_made mC ⟨_, _, G_Web___init__, b_Web___init__, MI⟩ T W glist
  exact KD.ok_law (C := (He.ga K "Web")) FLW c__law_bag_spBagK c__law_web_spBΩmfWeb c__law_naming_spBΩmfLawNamingA c__law_named_spDΩmfLawNamedA c__law_pull_spBΩmfPull c__law_namings_spOΩmfLawNamingsA c__law_same_spDΩmfSame c_naming_spDΩmfNaming c__law_made_spDΩmfMadeS glen glist grange gtuple
end KW
open PySem PySem.W PySem.Calls PyProof.Rows in
set_option maxRecDepth 100000 in
set_option maxHeartbeats 0 in
theorem PySem.Challenge.cw_aheadfold_k40_namings_of_rooms_of_two_we_holds : PySem.Challenge.rw_aheadfold_k40_namings_of_rooms_of_two_we.Holds := by
  w_on
  refine KWlawSaid fun said => ?_
  refine HandSHeadRun.head_any (r := OpenLaw.row PySem.Challenge.rw_aheadfold_k40_namings_of_rooms_of_two_we) (q := view (OpenLaw.row PySem.Challenge.rw_aheadfold_k40_namings_of_rooms_of_two_we).prog [37]) (H := KW.hkM) (ob := KW.obM) (M := 20000) (loose := KW.loAll) (d := HandSHeadRun.topDef (OpenLaw.row PySem.Challenge.rw_aheadfold_k40_namings_of_rooms_of_two_we).prog 37) (kwd := []) KW.obM_eq
    (by kernel_rfl) (fun s => by kernel_rfl) KW.runM (by kernel_rfl) (by kernel_rfl) (by kernel_rfl) (by rfl) (by first | assumption | decide +kernel) (by decide +kernel) ⟨rfl, rfl, rfl, rfl, rfl, by decide +kernel⟩ ?hw ?hc
  case hw => w_witness2
  case hc =>
    refine L2.walk_ofE (l := PySem.Challenge.rw_aheadfold_k40_namings_of_rooms_of_two_we) (n := 63) (k := 6) (x := "_law_script") (CX := L2.CX0) rfl (by decide) (by kernel_rfl) ⟨rfl, by decide, by decide⟩ ?F (fun _ _ _ _ z => z)
    intro w mg fa hp says ground named
    obtain ⟨K, inK, c⟩ := says
    have nm : (HandSHeadRun.topDef (OpenLaw.row PySem.Challenge.rw_aheadfold_k40_namings_of_rooms_of_two_we).prog 37).name = ("law" : PySem.Str) := by kernel_rfl
    rw [nm] at named
    obtain ⟨fd, sp, h1, h2, h3⟩ := KW.factsM (l := PySem.Challenge.rw_aheadfold_k40_namings_of_rooms_of_two_we) (w := w) inK ground named c
    exact ⟨K, fd, sp, inK, h1, h2, h3⟩
