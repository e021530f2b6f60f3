import PyProof.Rows.All
import Wide.All
import OpenK.AllK
import Wide.FinOn
import PyProof.EqAt
import PyProof.EqKinds
import PyProof.TupleCall
import KE.KFromBytes
import KE.KExcSuper
import HandS.ForExc
import HandS.ExcInit
import HandS.ExcSuper
import KE.KExcIs
import HandS.ExcField
import HandS.ExcIs
import HandS.TryMany
import HandS.IsInst
import HandS.ForMost
import HandS.TupAny
import HandS.Text
import HandS.Walk
import HandS.Steps
import HandS.Zip
import PyProof.TypeEq
import PyProof.InstEq
import HandS.AnyAll
import HandS.SortInts
import HandS.Set
import HandS.SetFor
import HandS.Strs
import HandS.Style
import KE.KRevSl
import PyProof.StrOps2
import HandS.Iter
import KE.KDictPairs
import KE.GoesEnum
import KE.GoesMore
import PyProof.ReprLen
import PyProof.Rows.StrLast
import KE.KLam
import KE.SortKeyHeap
import KE.KItemsList
import HandS.Lambda
import HandS.ListItems
import HandS.EndTab
import HandS.CallLocal
import PySem.Challenge.RW_holekinds_k21_whole_spots_by_own_walk
set_option Elab.async false
set_option linter.all false
set_option maxRecDepth 100000
set_option maxHeartbeats 4000000
/-! an own error class over HoleError over ValueError, whose __init__ says super().__init__(text) and stores what it is made with -/
namespace PySem
namespace ErrX
open PySem.W PySem.Calls PyProof.Rows PySem.HandSPX

/-- the text of __init__: its parameters, its first row, its stores -/
def eA (ps : List (Str × Pos)) : Arguments := { posonlyargs := [], args := ps.map fun p => { arg := p.1, annotation := none, pos := p.2 }, vararg := none, kwonlyargs := [], kw_defaults := [], kwarg := none, defaults := [] }
abbrev eSup (txt : Str) (p0 p1 p2 p3 p4 p5 : Pos) : Stmt := .Expr (.Call (.Attribute (.Call (.Name "super" p0) [] [] p1) "__init__" p2) [.Constant (.str txt) 0 p3] [] p4) p5
abbrev eSet (f : Str) (q0 q1 q2 q3 : Pos) : Stmt := .Assign [.Attribute (.Name "self" q0) f q1] (.Name f q2) q3
def eScope (ps : List Str) : Scope := { kind := .function, names := ps.map (fun x => (x, NameKind.local)) ++ [(Str.ofString "__class__", .free), (Str.ofString "super", .globalImplicit)], isGenerator := false, isCoroutine := false, more := [] }

abbrev pN (ps : List (Str × Pos)) : List Str := ps.map fun p => p.1
structure ErrTxt (main : PySem.Module) (K : Frag) (C fI : Addr) (ps : List (Str × Pos)) (body : List Stmt) : Prop where
  cls : ∃ nm q N bs bm sn sub ab col dd k0 k1 k2 k3 k5, K.lookup C = some (excClassObj nm q C N bs bm true sn sub ab col dd k0 k1 k2 k3 k5 "ValueError.__new__") ∧ refsVE bm = true
  sa : findIn K (.ref C) "__setattr__" = some (some (.builtin "object.__setattr__"))
  iC : findIn K (.ref C) "__init__" = some (some (.ref fI))
  tC : typeIn K (.ref fI) = some (.type "function")
  kC : keepIn K (.ref C) = true
  sub : mroIn K C (.ref C) = some true
  subV : subIn K (.ref C) (.type "ValueError") = some true
  sup : ks_superIn K C C "__init__" = some (some (.builtin "ValueError.__init__"))
  tp : nsIn K cStatics "thirdparty.any" = some none
  su : nsIn K mainGlobals "super" = some none
  top : (main.scope.names.lookup ("super" : Str)).isSome = false
  fn : ∃ (oc cl ccl : Value) (od cld cdd : Option Addr) (doc pm : Value) (an : Option Addr) (ct : Value) (osl csl ccs : Array (Option Value)) (cc cda : Addr) (qual : Str) (vs : Array Value) (file : Str) (tf : Tok),
    K.lookup fI = some ⟨oc, od, .func (ksFn "__init__" qual (eA ps) body (eScope (pN ps)) .none .none doc pm an (.ref cda) ct cc), osl⟩ ∧ codeIn K (.ref cda) qual = true ∧
    K.lookup cc = some ⟨cl, cld, .cell (some (.ref C)), csl⟩ ∧ K.lookup cda = some ⟨ccl, cdd, .fields vs, ccs⟩ ∧ vs[2]? = some (.str file tf) ∧ ((main.file : Str) == file) = true

section
variable {prog : Program} {w : World} {A : Around} {E : Value → Shared → Prop} {R : Result → Shared → Prop} {s : Shared} {K : Frag} {mg : Str → Option Value} {base : Heap} {C fI : Addr}
/-- the bound ValueError.__init__ is called: the args are laid anew -/
theorem call_mw {h : Heap} {g : Array GenState} {d : Drawn} {t : Nat} {os : OsState} {u e t0 : Addr} {rest : List Value} {Q : Value → Shared → Prop}
    {nm q : Str} {N : Addr} {bs bm : List Value} {hdct : Bool} {sn : List Str} {sub : List Value} {ab : Bool} {col : Option Bool} {dd : Option Addr} {k0 k1 k2 k3 k5 : Option Value}
    (hC : h.get? C = some (excClassObj nm q C N bs bm hdct sn sub ab col dd k0 k1 k2 k3 k5 "ValueError.__new__")) (he : h.get? e = some (HandSPX.excO C t0)) (hu : h.get? u = some (kxs_mw "ValueError.__init__" e)) (hrest : rest.length ≤ sizeLine)
    (hq : ∀ h' t1, (∀ b o, b ≠ e → h.get? b = some o → h'.get? b = some o) → h'.get? e = some (HandSPX.excO C t1) → Q .none ⟨h', g, d, t, os⟩) :
    wpAny (model prog w) A (call (.ref u) rest) Q E ⟨h, g, d, t, os⟩ := by
  refine wpAny_call (codeAny_of_tree ?_)
  show wpAny _ A.in1 (callAny (.ref u) ⟨rest, []⟩) _ _ _
  simp only [callAny]
  refine wpAny_bind (wpAny_load hu ?_)
  simp only [kxs_mw, show (Value.type "method-wrapper" == Value.type "method" || Value.type "method-wrapper" == Value.type "builtin_function_or_method" || Value.type "method-wrapper" == Value.type "method-wrapper") = true by decide, if_true]
  refine W.KFB.if_so (by decide) ?_
  refine wpAny_bind (check_bound_init F.excBase_ValueError.toExcCallFacts hC he rfl ?_)
  refine wpAny_bind (wpAny_pure (wpAny_pure ?_))
  refine ⟨plainId_quiet F.excBase_ValueError.init.plain _, codeAny_builtin F.excBase_ValueError.initEntry ?_⟩
  exact exc_init_tree (cls := .ref C) (t0 := t0) (dv := none) (c2 := .none) (c3 := .none) (b4 := .bool false) he hrest fun h' k e' _ => hq h' _ k e'

/-- how the row's call is read: its places stand on one line -/
def SupEq (txt : Str) (p0 p1 p2 p3 p4 : Pos) : Prop := ∀ env : Env, eval (.Call (.Attribute (.Call (.Name "super" p0) [] [] p1) "__init__" p2) [.Constant (.str txt) 0 p3] [] p4) env = (do
      let ov ← attributeBase (.Call (.Name "super" p0) [] [] p1) "__init__" env (eval (.Call (.Name "super" p0) [] [] p1) env)
      standAt p2.atName
      let (f, first) ← holding [ov] (getMethod ov "__init__" (do return (← importBound (.Call (.Name "super" p0) [] [] p1) env).getD true))
      callWith p4 f first (backTo p4 (starEach [.Constant (.str txt) 0 p3] env)) [])
/-- super().__init__(text): the rest of the body runs behind it -/
theorem sup_row {ps : List (Str × Pos)} {body body' : List Stmt} {txt : Str} {p0 p1 p2 p3 p4 p5 : Pos} {x t0 L : Addr} {m : Str → Option Value} {arS : Pos} {cc cda : Addr} {qual : Str} {oc cl ccl : Value} {od cld cdd : Option Addr} {doc pm : Value} {an : Option Addr} {ct : Value} {osl csl ccs : Array (Option Value)} {vs : Array Value} {file : Str} {tf : Tok} {Q : Flow → Shared → Prop}
    (T : ErrTxt prog.main K C fI ps body) (hps : ps.head? = some (Str.ofString "self", arS)) (hsc : (eScope (pN ps)).names.lookup ("super" : Str) = some .globalImplicit) (hcc : (eScope (pN ps)).names.lookup ("__class__" : Str) = some .free) (hss : (eScope (pN ps)).names.lookup ("self" : Str) = some .local)
    (heq : SupEq txt p0 p1 p2 p3 p4)
    (l1 : K.lookup fI = some ⟨oc, od, .func (ksFn "__init__" qual (eA ps) body (eScope (pN ps)) .none .none doc pm an (.ref cda) ct cc), osl⟩)
    (l2 : K.lookup cc = some ⟨cl, cld, .cell (some (.ref C)), csl⟩) (l3 : K.lookup cda = some ⟨ccl, cdd, .fields vs, ccs⟩) (hvs : vs[2]? = some (.str file tf)) (hfile : ((prog.main.file : Str) == file) = true)
    (hM : L2.Mod K mg base) (k0 : ∀ b o, base.get? b = some o → s.heap.get? b = some o) (hn : s.heap.Ns L m) (hx : m "self" = some (.ref x)) (hxo : s.heap.get? x = some (excO C t0))
    (h : ∀ h' tk t1, (∀ b o, b ≠ x → s.heap.get? b = some o → h'.get? b = some o) → h'.get? x = some (excO C t1) → Q .next { s with heap := h', toks := tk }) :
    _root_.PySem.wpAt (model prog w) A (.func body' (ksEnv qual (eScope (pN ps)) L fI (.ref cda) cc)) (exec (eSup txt p0 p1 p2 p3 p4 p5) (ksEnv qual (eScope (pN ps)) L fI (.ref cda) cc)) Q E s := by
  have X : K.In s.heap := hM.kin.keeps k0
  obtain ⟨mb, hb1, hb2⟩ := hM.blt
  obtain ⟨nm, q, N, bs, bm, sn, sub, ab, col, dd, kk0, kk1, kk2, kk3, kk5, hC, hbm⟩ := T.cls
  have hcl : clsIn K C = some { name := nm, bases := bs, mro := .ref C :: bm, ns := N, qualname := q, hasDict := true, slotNames := sn, subclasses := sub, abstract := ab, collection := col, hasDel := false } := by unfold clsIn; rw [hC] <;> rfl
  obtain ⟨hh, g, d, t, os⟩ := s
  refine ks_wpAt_Expr_any (hs := by rfl) (hi := by rfl) ?_
  refine ks_wpAt_MethodCall (args := [.Constant (.str txt) 0 p3]) ?_ (heq _)
  have har : (((ksFn "__init__" qual (eA ps) body (eScope (pN ps)) .none .none doc pm an (.ref cda) ct cc).params.posonlyargs ++ (ksFn "__init__" qual (eA ps) body (eScope (pN ps)) .none .none doc pm an (.ref cda) ct cc).params.args).head?) = some ({ arg := "self", annotation := none, pos := arS } : Arg) := by
    show (ps.map fun p => ({ arg := p.1, annotation := none, pos := p.2 } : Arg)).head? = _
    rw [List.head?_map, hps]
    rfl
  refine ks_wpAt_super_base (env := ksEnv qual (eScope (pN ps)) L fI (.ref cda) cc) (ar := { arg := "self", annotation := none, pos := arS }) hsc hcc rfl rfl (X _ _ l1) rfl har rfl (X _ _ l3) rfl hvs hfile T.top ?_
  refine ks_loadName_global rfl hsc (loadGlobal_builtin (env := ksEnv qual (eScope (pN ps)) L fI (.ref cda) cc) (hM.glob.keeps k0) (mg_none_of hM.kin hM.glob T.su) (hb1.keeps k0) ((hb2 _ (by decide +kernel)).trans (by kernel_rfl)) ⟨rfl, ?_⟩)
  refine wpAny_loadName_free rfl hcc rfl ⟨_, X _ _ l2, rfl⟩ ?_
  refine wpAny_loadName_local rfl hss hn hx ?_
  refine ks_wpAny_isType_cls (X _ _ hC) rfl ⟨rfl, ?_⟩
  have hx0 : hh.get? x = some (excO C t0) := hxo
  refine ks_wpAny_call_super (X _ _ hC) rfl hx0 rfl (fun c e => by cases e) (looks_mroIn X T.sub) (fun h2 e2 k2 => ?_)
  have hx2 := k2 _ _ hx0
  have X2 : K.In h2 := X.keeps k2
  have I2 : W.InstAt h2 x (excO C t0) C none := ⟨hx2, rfl, rfl, trivial⟩
  have hI : Looks (model prog w) h2 (isInstance (.ref x) (.type "ValueError")) true := I2.type.andThen (looks_subIn X2 T.subV)
  have hsup := T.sup
  unfold ks_superIn at hsup
  rw [hcl] at hsup
  refine kxs_getMethod kxs_ValueError e2 (looks_opaque X2 T.tp) (l₀ := .ref C :: bm) ((W.looks_clsIn X2 hcl).andThen .now) rfl X2 hsup hI (ks_ne X2 I2 hcl) rfl ?_
  have hx3 : (h2.push (kxs_mw "ValueError.__init__" x)).get? x = some (excO C t0) := Heap.get?_push_of_some _ hx2
  have hu3 : (h2.push (kxs_mw "ValueError.__init__" x)).get? h2.objs.size = some (kxs_mw "ValueError.__init__" x) := Heap.get?_push_at rfl rfl
  refine kxs_callWith (i := "ValueError.__init__") (x := x) (by rfl) (evalArgs_plain (Calls.spliced_cons (Calls.Constant_str (k := 0) (pos := p3) (Calls.spliced_nil ⟨hu3, ?_⟩))))
  show wpAny _ _ (call (.ref h2.objs.size) [Value.str txt _]) _ _ _
  refine call_mw (X2.keeps (fun b o e => Heap.get?_push_of_some _ e) _ _ hC) hx3 hu3 (by show 1 ≤ sizeLine; rw [sizeLine_eq]; omega) fun h' t1 k hx' => ?_
  exact h h' _ t1 (fun b o hb e => k b o hb (Heap.get?_push_of_some _ (k2 b o e))) hx'

/-- what __init__ leaves of a fresh exception at x: its dict at dx, with the fields m -/
structure InitEnd (h h' : Heap) (x C dx t1 : Addr) (m : Str → Option Value) : Prop where
  keep : ∀ b o, b ≠ x → h.get? b = some o → h'.get? b = some o
  obj : h'.get? x = some { cls := .ref C, dict := some dx, data := .fields #[.ref t1, .none, .none, .none, .bool false, .none] }
  dbig : h.objs.size ≤ dx
  dne : dx ≠ x
  ns : h'.Ns1 dx m
theorem ldX {M : Model} {s : Shared} {q : Str} {scope : Scope} {L a : Addr} {cd : Value} {cc : Addr} {m : Str → Option Value} {x : Str} {pos : Pos} {v : Value} {Q : Value → Shared → Prop} {A : Around} {E : Value → Shared → Prop} (hn : s.heap.Ns L m) (hv : m x = some v) (h : Q v s)
    (hk : scope.kind = .function) (hl : scope.names.lookup x = some .local) (hd : (x == ("__debug__" : Str)) = false) :
    wpAny M A (eval (.Name x pos) (ksEnv q scope L a cd cc)) Q E s := wpAny_Name (wpAny_loadName_local hk hl hn hv h) hd
abbrev bd1 (f : Str) (txt : Str) (p : Nat → Pos) : List Stmt := [eSup txt (p 0) (p 1) (p 2) (p 3) (p 4) (p 5), eSet f (p 6) (p 7) (p 8) (p 9)]
abbrev ps1 (f : Str) (a b : Pos) : List (Str × Pos) := [(Str.ofString "self", a), (f, b)]
/-- which names of the scope a field's name is not -/
structure FldOk (f : Str) : Prop where
  sc : (eScope [Str.ofString "self", f]).names.lookup ("super" : Str) = some .globalImplicit
  cl : (eScope [Str.ofString "self", f]).names.lookup ("__class__" : Str) = some .free
  se : (eScope [Str.ofString "self", f]).names.lookup ("self" : Str) = some .local
  fl : (eScope [Str.ofString "self", f]).names.lookup f = some .local
  ne : f ≠ Str.ofString "self"
  db : (f == ("__debug__" : Str)) = false
  noc : ∀ x ∈ (eScope [Str.ofString "self", f]).names, x.2 ≠ .cell
  bi : ∀ (qual : Str) (body : List Stmt) (sc : Scope) (doc pm : Value) (an : Option Addr) (cdv ct : Value) (cc : Addr) (a b : Pos) (u v : Value), bindArgs (ksFn "__init__" qual (eA (ps1 f a b)) body sc .none .none doc pm an cdv ct cc) ⟨[u, v], []⟩ = pure [(Str.ofString "self", u), (f, v)]
  bk : ∀ (qual : Str) (body : List Stmt) (sc : Scope) (doc pm : Value) (an : Option Addr) (cdv ct : Value) (cc : Addr) (a b : Pos) (u v : Value), bindArgs (ksFn "__init__" qual (eA (ps1 f a b)) body sc .none .none doc pm an cdv ct cc) ⟨[u], [(f, v)]⟩ = pure [(Str.ofString "self", u), (f, v)]
theorem init1 {f txt : Str} {p : Nat → Pos} {pa pb : Pos} {x t0 : Addr} {v : Value} (T : ErrTxt prog.main K C fI (ps1 f pa pb) (bd1 f txt p)) (FO : FldOk f) (hno : findIn K (.ref C) f = some none)
    (heq : SupEq txt (p 0) (p 1) (p 2) (p 3) (p 4)) (hM : L2.Mod K mg base) (k0 : ∀ b o, base.get? b = some o → s.heap.get? b = some o) (hx : s.heap.get? x = some (excO C t0)) (hnx : K.lookup x = none) (hroom : A.depth < recursionLimit)
    (args : Args) (hb : ∀ s' qual body sc doc pm an cdv ct cc, BindsTo s' (ksFn "__init__" qual (eA (ps1 f pa pb)) body sc .none .none doc pm an cdv ct cc) args [(Str.ofString "self", .ref x), (f, v)])
    (hq : ∀ h' tk dx t1, InitEnd s.heap h' x C dx t1 (fun y => if y = f then some v else none) → R (.ok (.ret .none)) { s with heap := h', toks := tk }) :
    codeAny (model prog w) A (.call (.ref fI) args) R s := by
  obtain ⟨oc, cl, ccl, od, cld, cdd, doc, pm, an, ct, osl, csl, ccs, cc, cda, qual, vs, file, tf, l1, hcd, l2, l3, hvs, hfile⟩ := T.fn
  have X : K.In s.heap := hM.kin.keeps k0
  refine ks_codeAny_call_defAt (fd := ksFn "__init__" qual (eA (ps1 f pa pb)) (bd1 f txt p) (eScope (pN (ps1 f pa pb))) .none .none doc pm an (.ref cda) ct cc) (body := bd1 f txt p) (binds := [(Str.ofString "self", .ref x), (f, v)])
    hroom (X _ _ l1) rfl (hM.nolimit.keeps k0) (codeRec_of X hcd) rfl (hb _ _ _ _ _ _ _ _ _ _) FO.noc ?_ (fun h₁ hns hk₁ => ?_) rfl rfl rfl
  · intro y hy
    rcases List.mem_cons.mp hy with rfl | hy
    · exact FO.se
    · rcases List.mem_cons.mp hy with rfl | hy
      · exact FO.fl
      · cases hy
  have hnf : ((Str.ofString "self") == f) = false := by simpa using (Ne.symm FO.ne)
  have hm1 : (fun y => List.lookup y ([(Str.ofString "self", Value.ref x), (f, v)] : List (Str × Value)).reverse) (Str.ofString "self") = some (.ref x) := by
    show List.lookup (Str.ofString "self") [(f, v), (Str.ofString "self", Value.ref x)] = _
    simp [List.lookup, hnf]
  have hm2 : (fun y => List.lookup y ([(Str.ofString "self", Value.ref x), (f, v)] : List (Str × Value)).reverse) f = some v := by
    show List.lookup f [(f, v), (Str.ofString "self", Value.ref x)] = _
    simp [List.lookup]
  have hxL : s.heap.objs.size ≠ x := Nat.ne_of_gt (Heap.lt_size hx)
  refine ks_wpAt_execs_cons (sup_row (s := { s with heap := h₁, toks := s.toks + _ }) T rfl FO.sc FO.cl FO.se heq l1 l2 l3 hvs hfile hM (fun b o e => hk₁ b o (k0 b o e)) hns hm1 (hk₁ _ _ hx) fun h2 tk2 t1 k2 hx2 => ?_)
  show _root_.PySem.wpAt _ _ _ (execs _ _) _ _ _
  refine wpAt_of_wpAny (wpAny_execs_cons (plainObj_wpAny_Assign_Attribute ?_ (by rfl)))
  have hns2 : h2.Ns s.heap.objs.size (fun y => List.lookup y ([(Str.ofString "self", Value.ref x), (f, v)] : List (Str × Value)).reverse) := by
    obtain ⟨oL, es, ep, hL, r⟩ := hns
    exact ⟨oL, es, ep, k2 _ _ hxL hL, r⟩
  obtain ⟨nm, q, N, bs, bm, sn, sub, ab, col, dd, kk0, kk1, kk2, kk3, kk5, hC, hbm⟩ := T.cls
  have hcl : clsIn K C = some { name := nm, bases := bs, mro := .ref C :: bm, ns := N, qualname := q, hasDict := true, slotNames := sn, subclasses := sub, abstract := ab, collection := col, hasDel := false } := by unfold clsIn; rw [hC] <;> rfl
  refine ldX (v := v) hns2 hm2 ?_ rfl FO.fl FO.db
  refine ldX (v := .ref x) hns2 hm1 ?_ rfl FO.se (by decide +kernel)
  have nxK : ∀ b o, K.lookup b = some o → b ≠ x := fun b o e z => by rw [z, hnx] at e; cases e
  have X2 : K.In h2 := fun b o e => k2 b o (nxK b o e) (hk₁ b o (X b o e))
  refine set_plain X2 (ox := excO C t1) (od := none) ⟨hx2, rfl, rfl, trivial⟩ T.sa ?_
  refine exc_osa X2 hx2 hcl (show refsVE (.ref C :: bm) = true from hbm) rfl hno (fun h3 tk3 dx k3 dn dne hx3 hn3 => ?_)
  show wpAny _ _ (execs _ _) _ _ _
  refine wpAny_execs_nil (hq h3 tk3 dx t1 ⟨fun b o hb e => k3 b o hb (k2 b o hb (hk₁ b o e)), hx3, Nat.le_of_lt (Nat.lt_of_lt_of_le hns2.lt dn), dne, hn3⟩)

/-! two fields -/
abbrev bd2 (f1 f2 : Str) (txt : Str) (p : Nat → Pos) : List Stmt := [eSup txt (p 0) (p 1) (p 2) (p 3) (p 4) (p 5), eSet f1 (p 6) (p 7) (p 8) (p 9), eSet f2 (p 10) (p 11) (p 12) (p 13)]
abbrev ps2 (f1 f2 : Str) (a b c : Pos) : List (Str × Pos) := [(Str.ofString "self", a), (f1, b), (f2, c)]
structure Fld2 (f1 f2 : Str) : Prop where
  bi : ∀ (qual : Str) (body : List Stmt) (sc : Scope) (doc pm : Value) (an : Option Addr) (cdv ct : Value) (cc : Addr) (a b c : Pos) (u v w : Value), bindArgs (ksFn "__init__" qual (eA (ps2 f1 f2 a b c)) body sc .none .none doc pm an cdv ct cc) ⟨[u, v, w], []⟩ = pure [(Str.ofString "self", u), (f1, v), (f2, w)]
  bk : ∀ (qual : Str) (body : List Stmt) (sc : Scope) (doc pm : Value) (an : Option Addr) (cdv ct : Value) (cc : Addr) (a b c : Pos) (u v w : Value), bindArgs (ksFn "__init__" qual (eA (ps2 f1 f2 a b c)) body sc .none .none doc pm an cdv ct cc) ⟨[u], [(f2, w), (f1, v)]⟩ = pure [(Str.ofString "self", u), (f1, v), (f2, w)]
  sc : (eScope [Str.ofString "self", f1, f2]).names.lookup ("super" : Str) = some .globalImplicit
  cl : (eScope [Str.ofString "self", f1, f2]).names.lookup ("__class__" : Str) = some .free
  se : (eScope [Str.ofString "self", f1, f2]).names.lookup ("self" : Str) = some .local
  fl1 : (eScope [Str.ofString "self", f1, f2]).names.lookup f1 = some .local
  fl2 : (eScope [Str.ofString "self", f1, f2]).names.lookup f2 = some .local
  ne1 : f1 ≠ Str.ofString "self"
  ne2 : f2 ≠ Str.ofString "self"
  ne12 : f1 ≠ f2
  db1 : (f1 == ("__debug__" : Str)) = false
  db2 : (f2 == ("__debug__" : Str)) = false
  noc : ∀ x ∈ (eScope [Str.ofString "self", f1, f2]).names, x.2 ≠ .cell
theorem init2 {f1 f2 txt : Str} {p : Nat → Pos} {pa pb pc : Pos} {x t0 : Addr} {v1 v2 : Value} (T : ErrTxt prog.main K C fI (ps2 f1 f2 pa pb pc) (bd2 f1 f2 txt p)) (FO : Fld2 f1 f2) (hno1 : findIn K (.ref C) f1 = some none) (hno2 : findIn K (.ref C) f2 = some none)
    (heq : SupEq txt (p 0) (p 1) (p 2) (p 3) (p 4)) (hM : L2.Mod K mg base) (k0 : ∀ b o, base.get? b = some o → s.heap.get? b = some o) (hx : s.heap.get? x = some (excO C t0)) (hnx : K.lookup x = none) (hroom : A.depth < recursionLimit)
    (args : Args) (hb : ∀ s' qual body sc doc pm an cdv ct cc, BindsTo s' (ksFn "__init__" qual (eA (ps2 f1 f2 pa pb pc)) body sc .none .none doc pm an cdv ct cc) args [(Str.ofString "self", .ref x), (f1, v1), (f2, v2)])
    (hq : ∀ h' tk dx t1, InitEnd s.heap h' x C dx t1 (fun y => if y = f2 then some v2 else if y = f1 then some v1 else none) → R (.ok (.ret .none)) { s with heap := h', toks := tk }) :
    codeAny (model prog w) A (.call (.ref fI) args) R s := by
  obtain ⟨oc, cl, ccl, od, cld, cdd, doc, pm, an, ct, osl, csl, ccs, cc, cda, qual, vs, file, tf, l1, hcd, l2, l3, hvs, hfile⟩ := T.fn
  have X : K.In s.heap := hM.kin.keeps k0
  refine ks_codeAny_call_defAt (fd := ksFn "__init__" qual (eA (ps2 f1 f2 pa pb pc)) (bd2 f1 f2 txt p) (eScope (pN (ps2 f1 f2 pa pb pc))) .none .none doc pm an (.ref cda) ct cc) (body := bd2 f1 f2 txt p) (binds := [(Str.ofString "self", .ref x), (f1, v1), (f2, v2)])
    hroom (X _ _ l1) rfl (hM.nolimit.keeps k0) (codeRec_of X hcd) rfl (hb _ _ _ _ _ _ _ _ _ _) FO.noc ?_ (fun h₁ hns hk₁ => ?_) rfl rfl rfl
  · intro y hy
    rcases List.mem_cons.mp hy with rfl | hy
    · exact FO.se
    · rcases List.mem_cons.mp hy with rfl | hy
      · exact FO.fl1
      · rcases List.mem_cons.mp hy with rfl | hy
        · exact FO.fl2
        · cases hy
  have hnf1 : ((Str.ofString "self") == f1) = false := by simpa using (Ne.symm FO.ne1)
  have hnf2 : ((Str.ofString "self") == f2) = false := by simpa using (Ne.symm FO.ne2)
  have hn12 : (f1 == f2) = false := by simpa using FO.ne12
  have hm1 : (fun y => List.lookup y ([(Str.ofString "self", Value.ref x), (f1, v1), (f2, v2)] : List (Str × Value)).reverse) (Str.ofString "self") = some (.ref x) := by
    show List.lookup (Str.ofString "self") [(f2, v2), (f1, v1), (Str.ofString "self", Value.ref x)] = _
    simp [List.lookup, hnf1, hnf2]
  have hm2 : (fun y => List.lookup y ([(Str.ofString "self", Value.ref x), (f1, v1), (f2, v2)] : List (Str × Value)).reverse) f1 = some v1 := by
    show List.lookup f1 [(f2, v2), (f1, v1), (Str.ofString "self", Value.ref x)] = _
    simp [List.lookup, hn12]
  have hm3 : (fun y => List.lookup y ([(Str.ofString "self", Value.ref x), (f1, v1), (f2, v2)] : List (Str × Value)).reverse) f2 = some v2 := by
    show List.lookup f2 [(f2, v2), (f1, v1), (Str.ofString "self", Value.ref x)] = _
    simp [List.lookup]
  have hxL : s.heap.objs.size ≠ x := Nat.ne_of_gt (Heap.lt_size hx)
  refine ks_wpAt_execs_cons (sup_row (s := { s with heap := h₁, toks := s.toks + _ }) T rfl FO.sc FO.cl FO.se heq l1 l2 l3 hvs hfile hM (fun b o e => hk₁ b o (k0 b o e)) hns hm1 (hk₁ _ _ hx) fun h2 tk2 t1 k2 hx2 => ?_)
  show _root_.PySem.wpAt _ _ _ (execs _ _) _ _ _
  refine wpAt_of_wpAny (wpAny_execs_cons (plainObj_wpAny_Assign_Attribute ?_ (by rfl)))
  have hns2 : h2.Ns s.heap.objs.size (fun y => List.lookup y ([(Str.ofString "self", Value.ref x), (f1, v1), (f2, v2)] : List (Str × Value)).reverse) := by
    obtain ⟨oL, es, ep, hL, r⟩ := hns
    exact ⟨oL, es, ep, k2 _ _ hxL hL, r⟩
  obtain ⟨nm, q, N, bs, bm, sn, sub, ab, col, dd, kk0, kk1, kk2, kk3, kk5, hC, hbm⟩ := T.cls
  have hcl : clsIn K C = some { name := nm, bases := bs, mro := .ref C :: bm, ns := N, qualname := q, hasDict := true, slotNames := sn, subclasses := sub, abstract := ab, collection := col, hasDel := false } := by unfold clsIn; rw [hC] <;> rfl
  refine ldX (v := v1) hns2 hm2 ?_ rfl FO.fl1 FO.db1
  refine ldX (v := .ref x) hns2 hm1 ?_ rfl FO.se (by decide +kernel)
  have nxK : ∀ b o, K.lookup b = some o → b ≠ x := fun b o e z => by rw [z, hnx] at e; cases e
  have X2 : K.In h2 := fun b o e => k2 b o (nxK b o e) (hk₁ b o (X b o e))
  refine set_plain X2 (ox := excO C t1) (od := none) ⟨hx2, rfl, rfl, trivial⟩ T.sa ?_
  refine exc_osa X2 hx2 hcl (show refsVE (.ref C :: bm) = true from hbm) rfl hno1 (fun h3 tk3 dx k3 dn dne hx3 hn3 => ?_)
  show wpAny _ _ (execs _ _) _ _ _
  have X3 : K.In h3 := fun b o e => k3 b o (nxK b o e) (X2 b o e)
  have hns3 : h3.Ns s.heap.objs.size (fun y => List.lookup y ([(Str.ofString "self", Value.ref x), (f1, v1), (f2, v2)] : List (Str × Value)).reverse) := by
    obtain ⟨oL, es, ep, hL, r⟩ := hns2
    exact ⟨oL, es, ep, k3 _ _ hxL hL, r⟩
  refine wpAny_execs_cons (plainObj_wpAny_Assign_Attribute ?_ (by rfl))
  refine ldX (v := v2) hns3 hm3 ?_ rfl FO.fl2 FO.db2
  refine ldX (v := .ref x) hns3 hm1 ?_ rfl FO.se (by decide +kernel)
  obtain ⟨oD, esD, epD, hoD, hdD⟩ := id hn3
  have hw : Within (fun y => if y = f1 then some v1 else none) [f1] := Within.cons f1 v1 Within.nil
  refine set_plain X3 (ox := { cls := .ref C, dict := some dx, data := .fields #[.ref t1, .none, .none, .none, .bool false, .none] }) (od := some oD) ⟨hx3, rfl, rfl, hoD⟩ T.sa ?_
  refine PySem.OEX.osa_old X3 hx3 hn3 hw (by show 1 ≤ 1000; decide) hcl (show refsVE (.ref C :: bm) = true from hbm) rfl hno2 (fun h4 tk4 k4 hn4 => ?_)
  show wpAny _ _ (execs _ _) _ _ _
  refine wpAny_execs_nil (hq h4 tk4 dx t1 ⟨fun b o hb e => k4 b o ?_ (k3 b o hb (k2 b o hb (hk₁ b o e))), k4 _ _ dne.symm hx3, Nat.le_of_lt (Nat.lt_of_lt_of_le hns2.lt dn), dne, hn4⟩)
  exact Nat.ne_of_lt (Nat.lt_of_lt_of_le (Heap.lt_size (k2 b o hb (hk₁ b o e))) dn)
end
end ErrX
end PySem
set_option Elab.async false
set_option linter.all false
set_option maxRecDepth 100000
set_option maxHeartbeats 4000000
namespace PySem
namespace ErrX
open PySem.W PySem.Calls PyProof.Rows PySem.HandSPX
/-! ### such a class called, keywords too -/
section
variable {M : Model} {A : Around} {E : Value → Shared → Prop} {h : Heap} {g : Array GenState} {d : Drawn} {t : Nat} {os : OsState}
variable {nm q : Str} {C N : Addr} {bs bm bmB : List Value} {hdct : Bool} {sn : List Str} {sub : List Value} {ab : Bool} {col : Option Bool} {dd : Option Addr} {k0 k1 k2 k3 k5 : Option Value} {B newId initId : String}
theorem check_newK (F : ExcBaseFacts B newId initId bmB) (hT : ∀ X : String, bm.contains (.type X) = bmB.contains (.type X)) {rest : List Value} {kw : List (Str × Value)} {Q : Unit → Shared → Prop}
    (hC : h.get? C = some (excClassObj nm q C N bs bm hdct sn sub ab col dd k0 k1 k2 k3 k5 newId)) (hq : Q () ⟨h, g, d, t, os⟩) : wpAny M A (checkBuiltinCall newId ⟨.ref C :: rest, kw⟩) Q E ⟨h, g, d, t, os⟩ := by
  have hcont : (Value.ref C :: bm).contains (.type B) = true := by rw [List.contains_cons, hT, F.hasB, Bool.or_true]
  have hstar := F.noStar
  simp only [checkBuiltinCall, F.newKind, F.newSplit, F.newRow]
  repeat (first | refine wpAny_loadPart_at hC ?_ | (refine wpAny_isSubtype_exc hC ?_; rw [hcont]) | refine wpAny_staticBase_exc hC ?_ | refine wpAny_madeBy_exc hC ?_ | simp only [bne_self_eq_false, Bool.false_eq_true, if_false] | wp_step)
  exact hq
end
section
variable {prog : Program} {w : World} {A : Around} {E : Value → Shared → Prop} {R : Result → Shared → Prop} {h : Heap} {g : Array GenState} {d : Drawn} {t : Nat} {os : OsState}
variable {nm q : Str} {C N : Addr} {bs bm bmB : List Value} {hdct : Bool} {sn : List Str} {sub : List Value} {ab : Bool} {col : Option Bool} {dd : Option Addr} {k0 k1 k2 k3 k5 : Option Value} {B newId initId : String}
theorem new_K (F : ExcBaseFacts B newId initId bmB) (hT : ∀ X : String, bm.contains (.type X) = bmB.contains (.type X)) {rest : List Value} {kw : List (Str × Value)}
    (hC : h.get? C = some (excClassObj nm q C N bs bm hdct sn sub ab col dd k0 k1 k2 k3 k5 newId))
    (hq : R (.ok (.ret (.ref (h.objs.size + 1)))) ⟨(h.push { cls := .type "tuple", data := .seq rest.toArray }).push
      { cls := .ref C, data := .fields #[.ref h.objs.size, .none, .none, .none, .bool false, .none] }, g, d, t, os⟩) (hrest : rest.length ≤ sizeLine) :
    codeAny (model prog w) A (.builtin newId ⟨.ref C :: rest, kw⟩) R ⟨h, g, d, t, os⟩ := by
  have hends := F.ends
  have hcB : (Value.ref C :: bm).contains (.type B) = true := by rw [List.contains_cons, hT, F.hasB, Bool.or_true]
  have hcA : (Value.ref C :: bm).contains (.type "AttributeError") = false := by rw [List.contains_cons, hT, F.noAttr]; rfl
  have hcN : (Value.ref C :: bm).contains (.type "NameError") = false := by rw [List.contains_cons, hT, F.noName]; rfl
  refine codeAny_builtinAt F.entry ?_
  unfold Builtin.«BaseException.__new__»
  refine wpAt_bind ?_
  show wpAt _ _ _ (stack >>= _) _ _ _
  refine wpAt_bind (wpAt_stack fun p below => wpAt_of_wpAny ?_)
  wp_walk
  refine wpAt_of_wpAny ?_
  rw [F.owner]
  repeat (first | with_reducible refine wpAny_madeHere_exc F.canon hC ?_ | with_reducible refine wpAny_loadPart_at hC ?_ | (with_reducible refine wpAny_isSubtype_exc hC ?_; first | rw [hcB] | rw [hcA] | rw [hcN]) | wp_step)
  show R _ _
  rw [Heap.size_push]
  exact hq
theorem type_callK (F : ExcBaseFacts B newId initId bmB) (hT : ∀ X : String, bm.contains (.type X) = bmB.contains (.type X)) {rest : List Value} {kw : List (Str × Value)} {fI : Addr} {Q : Fin → Shared → Prop}
    (hC : h.get? C = some (excClassObj nm q C N bs bm hdct sn sub ab col dd k0 k1 k2 k3 k5 newId))
    (hi : W.Looks (model prog w) h (typeLookup (.ref C) "__init__") (some (.ref fI))) (hb : ∀ self, W.Looks (model prog w) h (bindSpecial (.ref fI) self) (.ref fI, [self])) (hrest : rest.length ≤ sizeLine)
    (hq : codeAny (model prog w) A (.call (.ref fI) ⟨.ref (h.objs.size + 1) :: rest, kw⟩)
      (fun r s' => match r with | .ok (.ret v) => v = .none ∧ Q (.done (.ret (.ref (h.objs.size + 1)))) s' | .ok _ => False | .error e => E e s')
      ⟨(h.push (W.kdv_tup rest)).push (excO C h.objs.size), g, d, t, os⟩) :
    wpAny (model prog w) A (Builtin.«type.__call__» ⟨.ref C :: rest, kw⟩) Q E ⟨h, g, d, t, os⟩ := by
  repeat (first | with_reducible refine wpAny_loadPart_at hC ?_ | with_reducible refine wpAny_madeBy_exc hC ?_ | wp_step)
  refine codeAny_call_builtin_code (Code.quiet_builtin _ F.quiet) (check_newK F hT hC ?_)
  refine new_K F hT hC ?_ hrest
  show wpAny _ _ _ _ _ _
  have k : ∀ b o, h.get? b = some o → ((h.push (W.kdv_tup rest)).push (excO C h.objs.size)).get? b = some o := fun b o e => Heap.get?_push_of_some _ (Heap.get?_push_of_some _ e)
  have hC₁ := k _ _ hC
  have hget : ((h.push (W.kdv_tup rest)).push (excO C h.objs.size)).get? (h.objs.size + 1) = some (excO C h.objs.size) := by heap_get
  have hcC : (Value.ref C :: bm).contains (.ref C) = true := by simp
  have i1 := hi.keeps k
  have b1 := (hb (.ref (h.objs.size + 1))).keeps k
  unfold isInstance
  repeat (first | with_reducible refine wpAny_loadPart_at hget ?_ | (with_reducible refine wpAny_isSubtype_exc hC₁ ?_; rw [hcC]) | wp_step)
  show wpAny _ _ (typeLookup (.ref C) _) _ _ _
  refine i1.at ?_
  refine wpAny_holding (wpAny_bind (b1.at ?_))
  refine wpAny_bind (wpAny_call (codeAny_mono hq fun r s' z => ?_))
  rcases r with e | (v | _ | _ | _) <;> first | exact z | exact z.elim | skip
  obtain ⟨rfl, z⟩ := z
  first
    | exact wpAny_pure (wpAny_pure z)
    | (wp_walk; exact z)
theorem call_K (F : ExcBaseFacts B newId initId bmB) (hT : ∀ X : String, bm.contains (.type X) = bmB.contains (.type X)) {rest : List Value} {kw : List (Str × Value)} {fI : Addr}
    (hC : h.get? C = some (excClassObj nm q C N bs bm hdct sn sub ab col dd k0 k1 k2 k3 k5 newId))
    (hi : W.Looks (model prog w) h (typeLookup (.ref C) "__init__") (some (.ref fI))) (hb : ∀ self, W.Looks (model prog w) h (bindSpecial (.ref fI) self) (.ref fI, [self])) (hrest : rest.length ≤ sizeLine)
    (hq : codeAny (model prog w) (A.under (.builtin "type.__call__" ⟨.ref C :: rest, kw⟩)) (.call (.ref fI) ⟨.ref (h.objs.size + 1) :: rest, kw⟩) (W.InitBack (h.objs.size + 1) R)
      ⟨(h.push (W.kdv_tup rest)).push (excO C h.objs.size), g, d, t, os⟩) :
    codeAny (model prog w) A (.call (.ref C) ⟨rest, kw⟩) R ⟨h, g, d, t, os⟩ := by
  have f1 := tc_lookup
  have f2 := tc_bind (.ref C)
  have hTy : (⟨h, g, d, t, os⟩ : Shared).TypeIs (.ref C) "type" := ⟨_, hC, rfl⟩
  refine codeAny_of_tree ?_
  show wpAny _ _ (callAny (.ref C) _) _ _ _
  repeat (any_goals (first | assumption | with_reducible refine wpAny_loadPart_at hC ?_ | wp_step))
  refine ⟨rfl, ?_⟩
  refine codeAny_call_builtin_at (Code.quiet_builtin _ (by decide +kernel)) entry_typeCall (wpAny_check_type_call_sub hC (type_callK F hT hC hi hb hrest ?_))
  refine codeAny_mono hq fun r s' z => ?_
  rcases r with e | (v | _ | _ | _) <;> exact z
end

/-- what stands behind the making of such an error -/
structure ErMade (h h' : Heap) (e C d : Addr) (m : Str → Option Value) : Prop where
  keep : ∀ b o, h.get? b = some o → h'.get? b = some o
  new : h.objs.size ≤ e
  obj : ∃ t1 : Addr, h'.get? e = some { cls := .ref C, dict := some d, data := .fields #[.ref t1, .none, .none, .none, .bool false, .none] }
  dbig : h.objs.size ≤ d
  dne : d ≠ e
  ns : h'.Ns1 d m
section
variable {prog : Program} {w : World} {A : Around} {R : Result → Shared → Prop} {s : Shared} {K : Frag} {mg : Str → Option Value} {base : Heap} {C fI : Addr}
theorem made_of {m : Str → Option Value} {us : List Value} {kw : List (Str × Value)} {ps : List (Str × Pos)} {body : List Stmt} (T : ErrTxt prog.main K C fI ps body)
    (hM : L2.Mod K mg base) (k0 : ∀ b o, base.get? b = some o → s.heap.get? b = some o) (hroom : A.depth + 1 < recursionLimit) (hl : us.length ≤ sizeLine)
    (hI : ∀ (s' : Shared) (A' : Around) (R' : Result → Shared → Prop) (x t0 : Addr), (∀ b o, base.get? b = some o → s'.heap.get? b = some o) → s'.heap.get? x = some (excO C t0) → K.lookup x = none → A'.depth < recursionLimit →
      (∀ h' tk dx t1, InitEnd s'.heap h' x C dx t1 m → R' (.ok (.ret .none)) { s' with heap := h', toks := tk }) → codeAny (model prog w) A' (.call (.ref fI) ⟨.ref x :: us, kw⟩) R' s')
    (hq : ∀ h' tk e d, ErMade s.heap h' e C d m → R (.ok (.ret (.ref e))) { s with heap := h', toks := tk }) :
    codeAny (model prog w) A (.call (.ref C) ⟨us, kw⟩) R s := by
  obtain ⟨nm, q, N, bs, bm, sn, sub, ab, col, dd, kk0, kk1, kk2, kk3, kk5, hC, hbm⟩ := T.cls
  have X : K.In s.heap := hM.kin.keeps k0
  obtain ⟨hp, g, dr, tk, os⟩ := s
  have k : ∀ b o, hp.get? b = some o → ((hp.push (kdv_tup us)).push (excO C hp.objs.size)).get? b = some o := fun b o e => Heap.get?_push_of_some _ (Heap.get?_push_of_some _ e)
  have hget : ((hp.push (kdv_tup us)).push (excO C hp.objs.size)).get? (hp.objs.size + 1) = some (excO C hp.objs.size) := by heap_get
  have hnx : K.lookup (hp.objs.size + 1) = none := by
    cases e : K.lookup (hp.objs.size + 1) with
    | none => rfl
    | some o =>
      have z : hp.get? (hp.objs.size + 1) = some o := X _ _ e
      exact absurd (Nat.lt_of_succ_lt (Heap.lt_size z)) (Nat.lt_irrefl _)
  refine call_K F.excBase_ValueError (fun X => refsVE_contains X bm hbm) (X _ _ hC) (looks_findIn X T.iC) (fun self => bind_fn X self T.tC) hl ?_
  refine hI ⟨(hp.push (kdv_tup us)).push (excO C hp.objs.size), g, dr, tk, os⟩ _ _ _ _ (fun b o e => k b o (k0 b o e)) hget hnx ?_ fun h' tk' dx t1 ⟨k', hx, dn, dne, hns⟩ => ?_
  · show A.depth + 1 < recursionLimit
    exact hroom
  · have old : ∀ b o, hp.get? b = some o → h'.get? b = some o := fun b o e => k' b o (Nat.ne_of_lt (Nat.lt_succ_of_lt (Heap.lt_size e))) (k b o e)
    have z : hp.objs.size + 1 + 1 ≤ dx := by
      first
        | (simpa only [Heap.size_push] using dn)
        | exact dn
        | (have q := dn; rw [Heap.size_push, Heap.size_push] at q; exact q)
    exact ⟨rfl, hq h' tk' (hp.objs.size + 1) dx ⟨old, Nat.le_succ _, ⟨t1, hx⟩, Nat.le_trans (Nat.le_trans (Nat.le_succ _) (Nat.le_succ _)) z, dne, hns⟩⟩
theorem made1 {f txt : Str} {p : Nat → Pos} {pa pb : Pos} {us : List Value} {kw : List (Str × Value)} {v : Value} (T : ErrTxt prog.main K C fI (ps1 f pa pb) (bd1 f txt p)) (FO : FldOk f) (hno : findIn K (.ref C) f = some none)
    (heq : SupEq txt (p 0) (p 1) (p 2) (p 3) (p 4)) (hM : L2.Mod K mg base) (k0 : ∀ b o, base.get? b = some o → s.heap.get? b = some o) (hroom : A.depth + 1 < recursionLimit) (hl : us.length ≤ sizeLine)
    (hb : ∀ x s' qual body sc doc pm an cdv ct cc, BindsTo s' (ksFn "__init__" qual (eA (ps1 f pa pb)) body sc .none .none doc pm an cdv ct cc) ⟨.ref x :: us, kw⟩ [(Str.ofString "self", .ref x), (f, v)])
    (hq : ∀ h' tk e d, ErMade s.heap h' e C d (fun y => if y = f then some v else none) → R (.ok (.ret (.ref e))) { s with heap := h', toks := tk }) :
    codeAny (model prog w) A (.call (.ref C) ⟨us, kw⟩) R s :=
  made_of T hM k0 hroom hl (fun s' A' R' x t0 k0' hx hnx hr hq' => init1 T FO hno heq hM k0' hx hnx hr _ (hb x) hq') hq
theorem made2 {f1 f2 txt : Str} {p : Nat → Pos} {pa pb pc : Pos} {us : List Value} {kw : List (Str × Value)} {v1 v2 : Value} (T : ErrTxt prog.main K C fI (ps2 f1 f2 pa pb pc) (bd2 f1 f2 txt p)) (FO : Fld2 f1 f2) (hno1 : findIn K (.ref C) f1 = some none) (hno2 : findIn K (.ref C) f2 = some none)
    (heq : SupEq txt (p 0) (p 1) (p 2) (p 3) (p 4)) (hM : L2.Mod K mg base) (k0 : ∀ b o, base.get? b = some o → s.heap.get? b = some o) (hroom : A.depth + 1 < recursionLimit) (hl : us.length ≤ sizeLine)
    (hb : ∀ x s' qual body sc doc pm an cdv ct cc, BindsTo s' (ksFn "__init__" qual (eA (ps2 f1 f2 pa pb pc)) body sc .none .none doc pm an cdv ct cc) ⟨.ref x :: us, kw⟩ [(Str.ofString "self", .ref x), (f1, v1), (f2, v2)])
    (hq : ∀ h' tk e d, ErMade s.heap h' e C d (fun y => if y = f2 then some v2 else if y = f1 then some v1 else none) → R (.ok (.ret (.ref e))) { s with heap := h', toks := tk }) :
    codeAny (model prog w) A (.call (.ref C) ⟨us, kw⟩) R s :=
  made_of T hM k0 hroom hl (fun s' A' R' x t0 k0' hx hnx hr hq' => init2 T FO hno1 hno2 heq hM k0' hx hnx hr _ (hb x) hq') hq
end
end ErrX
end PySem
set_option Elab.async false
set_option linter.all false
set_option maxRecDepth 100000
set_option maxHeartbeats 4000000
namespace L2
open PySem PySem.Spec PyProof.Rows PySem.ErrX
/-! ### two new objects laid at once -/
section
variable {X : Cx} {pins : List (Addr × Obj)} {σ : St} {H : Hp} {s : Shared}
theorem Inv.lay2 {h' : Heap} {a d : Addr} {oa od : HO} {t' : Nat} (I : Inv X pins σ H s) (k : ∀ b u, s.heap.get? b = some u → h'.get? b = some u) (ha : s.heap.objs.size ≤ a) (hd : s.heap.objs.size ≤ d) (ne : d ≠ a)
    (na : ObjOk X.prog X.w (upd (upd H d od) a oa) h' a oa) (nd : ObjOk X.prog X.w (upd (upd H d od) a oa) h' d od) : Inv X pins σ (upd (upd H d od) a oa) { s with heap := h', toks := t' } := by
  have Ha : H a = none := I.hok.fresh ha
  have Hd : H d = none := I.hok.fresh hd
  have old : ∀ {b u}, s.heap.get? b = some u → b ≠ a ∧ b ≠ d := fun {b u} e => ⟨Nat.ne_of_lt (Nat.lt_of_lt_of_le (Heap.lt_size e) ha), Nat.ne_of_lt (Nat.lt_of_lt_of_le (Heap.lt_size e) hd)⟩
  have up : ∀ {b o}, H b = some o → upd (upd H d od) a oa b = some o := fun {b o} e => by rw [upd_ne (ne_of_none e Ha), upd_ne (ne_of_none e Hd)]; exact e
  refine I.un (h' := h') ⟨fun b o q _ _ _ => k b o q, fun b o q _ _ _ => ⟨o.slots, k b o q⟩, fun b o q n _ => by rw [upd_ne (old q).1, upd_ne (old q).2]; exact n, fun b o q _ => ⟨o, k b o q⟩,
    fun b xs q => up q, fun b o u q => up q, fun b ps q => ⟨#[], by rw [up q]; simp⟩⟩ fun b u e => ?_
  by_cases h1 : b = a
  · subst h1
    rw [upd_same] at e
    cases e
    exact na
  · by_cases h2 : b = d
    · subst h2
      rw [upd_ne h1, upd_same] at e
      cases e
      exact nd
    · rw [upd_ne h1, upd_ne h2] at e
      exact (I.hok b u e).stay (fun c v _ q => k c v q) (fun c q => up q) fun c xs q => up q
end

/-- the class at C is made with n values by position and those named ks: fsOf tells the fields that stand then -/
def Mkr (P : Program) (w : World) (K : PySem.W.Frag) (mg : Str → Option Value) (base : Heap) (C : Addr) (n : Nat) (ks : List Str) (fsOf : List V → List (Str × V)) : Prop :=
  ∀ (A : Around) (R : Result → Shared → Prop) (s : Shared) (us ws : List Value) (vs zs : List V), Vals vs us → Vals zs ws → vs.length = n → zs.length = ks.length → Mod K mg base → (∀ b o, base.get? b = some o → s.heap.get? b = some o) → A.depth + 1 < recursionLimit →
    (∀ h' tk e d m, ErMade s.heap h' e C d m → (∀ f, RelO ((fsOf (vs ++ zs)).lookup f) (m f)) → R (.ok (.ret (.ref e))) { s with heap := h', toks := tk }) → codeAny (model P w) A (.call (.ref C) ⟨us, ks.zip ws⟩) R s
section
variable {P : Program} {w : World} {K : PySem.W.Frag} {mg : Str → Option Value} {base : Heap} {C fI : Addr}
theorem relO1 {f : Str} {x : V} {u : Value} (r : RelV x u) (g : Str) : RelO ([(f, x)].lookup g) (if g = f then some u else none) := relO_put (fs := []) (mA := fun _ => none) r (fun _ => True.intro) g
/-- by position -/
theorem mkr1 {f txt : Str} {p : Nat → Pos} {pa pb : Pos} (T : ErrTxt P.main K C fI (ps1 f pa pb) (bd1 f txt p)) (FO : FldOk f) (hno : PySem.W.findIn K (.ref C) f = some none) (heq : SupEq txt (p 0) (p 1) (p 2) (p 3) (p 4)) :
    Mkr P w K mg base C 1 [] (fun vs => match vs with | [x] => [(f, x)] | _ => []) := fun A R s us ws vs zs r rz l1 l2 hM k0 hr hq => by
  cases rz with
  | cons _ _ => cases l2
  | nil =>
    cases r with
    | nil => cases l1
    | cons r rr =>
      cases rr with
      | cons _ _ => cases l1
      | nil =>
        rename_i x u
        refine made1 (v := u) (kw := []) T FO hno heq hM k0 hr (by show 1 ≤ sizeLine; rw [sizeLine_eq]; omega) (fun x s' qual body sc doc pm an cdv ct cc => .of_eq (FO.bi _ _ _ _ _ _ _ _ _ _ _ _ _)) fun h' tk e d M => hq h' tk e d _ M (relO1 r)
theorem mkr1k {f txt : Str} {p : Nat → Pos} {pa pb : Pos} (T : ErrTxt P.main K C fI (ps1 f pa pb) (bd1 f txt p)) (FO : FldOk f) (hno : PySem.W.findIn K (.ref C) f = some none) (heq : SupEq txt (p 0) (p 1) (p 2) (p 3) (p 4)) :
    Mkr P w K mg base C 0 [f] (fun vs => match vs with | [x] => [(f, x)] | _ => []) := fun A R s us ws vs zs r rz l1 l2 hM k0 hr hq => by
  cases r with
  | cons _ _ => cases l1
  | nil =>
    cases rz with
    | nil => cases l2
    | cons r rr =>
      cases rr with
      | cons _ _ => cases l2
      | nil =>
        rename_i x u
        refine made1 (v := u) (kw := [(f, u)]) T FO hno heq hM k0 hr (by show 0 ≤ sizeLine; omega) (fun x s' qual body sc doc pm an cdv ct cc => .of_eq (FO.bk _ _ _ _ _ _ _ _ _ _ _ _ _)) fun h' tk e d M => hq h' tk e d _ M (relO1 r)
theorem relO2 {f1 f2 : Str} {x y : V} {u v : Value} (r1 : RelV x u) (r2 : RelV y v) (g : Str) : RelO ([(f2, y), (f1, x)].lookup g) (if g = f2 then some v else if g = f1 then some u else none) := relO_put (fs := [(f1, x)]) r2 (relO1 r1) g
theorem mkr2 {f1 f2 txt : Str} {p : Nat → Pos} {pa pb pc : Pos} (T : ErrTxt P.main K C fI (ps2 f1 f2 pa pb pc) (bd2 f1 f2 txt p)) (FO : Fld2 f1 f2) (hno1 : PySem.W.findIn K (.ref C) f1 = some none) (hno2 : PySem.W.findIn K (.ref C) f2 = some none) (heq : SupEq txt (p 0) (p 1) (p 2) (p 3) (p 4)) :
    Mkr P w K mg base C 2 [] (fun vs => match vs with | [x, y] => [(f2, y), (f1, x)] | _ => []) := fun A R s us ws vs zs r rz l1 l2 hM k0 hr hq => by
  cases rz with
  | cons _ _ => cases l2
  | nil =>
    match vs, us, r, l1 with
    | [x, y], [u, v], .cons r1 (.cons r2 .nil), _ =>
      exact made2 (v1 := u) (v2 := v) (kw := []) T FO hno1 hno2 heq hM k0 hr (by show 2 ≤ sizeLine; rw [sizeLine_eq]; omega) (fun x s' qual body sc doc pm an cdv ct cc => .of_eq (FO.bi _ _ _ _ _ _ _ _ _ _ _ _ _ _ _)) fun h' tk e d M => hq h' tk e d _ M (relO2 r1 r2)
theorem mkr2k {f1 f2 txt : Str} {p : Nat → Pos} {pa pb pc : Pos} (T : ErrTxt P.main K C fI (ps2 f1 f2 pa pb pc) (bd2 f1 f2 txt p)) (FO : Fld2 f1 f2) (hno1 : PySem.W.findIn K (.ref C) f1 = some none) (hno2 : PySem.W.findIn K (.ref C) f2 = some none) (heq : SupEq txt (p 0) (p 1) (p 2) (p 3) (p 4)) :
    Mkr P w K mg base C 0 [f2, f1] (fun vs => match vs with | [y, x] => [(f2, y), (f1, x)] | _ => []) := fun A R s us ws vs zs r rz l1 l2 hM k0 hr hq => by
  cases r with
  | cons _ _ => cases l1
  | nil =>
    match zs, ws, rz, l2 with
    | [y, x], [v, u], .cons r2 (.cons r1 .nil), _ =>
      exact made2 (v1 := u) (v2 := v) (kw := [(f2, v), (f1, u)]) T FO hno1 hno2 heq hM k0 hr (by show 0 ≤ sizeLine; omega) (fun x s' qual body sc doc pm an cdv ct cc => .of_eq (FO.bk _ _ _ _ _ _ _ _ _ _ _ _ _ _ _)) fun h' tk e d M => hq h' tk e d _ M (relO2 r1 r2)
end

/-! ### such a class called -/
/-- C(..): a new error at a, its dict at d -/
def tMkE (C : Addr) (n m : Nat) (fsOf : List V → List (Str × V)) (t tk : TA) : TE := fun σ H Q => t σ H fun vs H1 => tk σ H1 fun zs H2 => vs.length = n ∧ zs.length = m ∧
  ∀ a d, H2 a = none → H2 d = none → d ≠ a → Q (.ref a) (upd (upd H2 d (exd d (fsOf (vs ++ zs)))) a (exo a C (some d)))
section
variable {X : Cx} {C : Addr} {n : Nat} {ks : List Str} {fsOf : List V → List (Str × V)} {x : Str} {p pos : Pos} {e : Expr} {es : List Expr} {kws : List Keyword} {t tk : TA} {k : Nat}
theorem run_mkr {pins : List (Addr × Obj)} {σ : St} {H : Hp} {s : Shared} {Q : VK} {us ws : List Value} {vs zs : List V} {E : Value → Shared → Prop} (M : Mkr X.prog X.w X.K X.mg X.base C n ks fsOf) (hr : Room (k + 1) X.A) (I : Inv X pins σ H s) (r : Vals vs us) (rz : Vals zs ws)
    (l1 : vs.length = n) (l2 : zs.length = ks.length) (h : ∀ a d, H a = none → H d = none → d ≠ a → Q (.ref a) (upd (upd H d (exd d (fsOf (vs ++ zs)))) a (exo a C (some d)))) :
    wpAny (model X.prog X.w) X.A (call (.ref C) us (ks.zip ws)) (EP X pins σ Q) E s := by
  refine wpAny_call (M X.A _ s us ws vs zs r rz l1 l2 I.ok.mod I.bk (by have := hr.dp; omega) fun h' tk a d m R hm => ?_)
  obtain ⟨t1, ho⟩ := R.obj
  exact ⟨.ref a, _, I.lay2 R.keep R.new R.dbig R.dne (exo_ok ho) (exd_ok R.ns hm), rfl, h a d (I.hok.fresh R.new) (I.hok.fresh R.dbig) R.dne⟩
theorem pe_mkr (M : Mkr X.prog X.w X.K X.mg X.base C n [] fsOf) (hr : Room (k + 1) X.A) (hg : Gl X x) (hm : X.mg x = some (.ref C)) (hk : PySem.W.keepIn X.K (.ref C) = true) (ha : PA X (e :: es) t)
    (hdb : (x == ("__debug__" : Str)) = false := by decide) (he : starEach (e :: es) X.env = (false, eval e X.env) :: starEach es X.env := by rfl) (hpl : (backTo pos (starEach es X.env)).any (·.1) = false := by rfl) :
    PE X (.Call (.Name x p) (e :: es) [] pos) (tMkE C n 0 fsOf t tNil) := by
  refine ⟨fun pins s σ H Q I h => ?_⟩
  refine wpAny_Call_Name_kw (ld_glob I hg hm ?_ hdb)
  refine PySem.W.callWith_K (h₀ := X.base) I.ok.mod.kin hk (thn (ha.run pos pins s σ H _ I h) fun us s1 ⟨vs, H1, I1, r, l1, _, q⟩ => ⟨I1.kIn, ?_⟩) he hpl
  exact run_mkr (ws := []) (zs := []) M hr I1 r .nil l1 rfl q
theorem pe_mkrK (M : Mkr X.prog X.w X.K X.mg X.base C 0 ks fsOf) (hr : Room (k + 1) X.A) (hg : Gl X x) (hm : X.mg x = some (.ref C)) (hk : PySem.W.keepIn X.K (.ref C) = true) (hkw : PK X kws tk)
    (hall : (backToKw pos (keywordEach kws X.env)).all (·.1.isSome) = true := by rfl) (hks : (backToKw pos (keywordEach kws X.env)).filterMap (·.1) = ks := by rfl) (hdb : (x == ("__debug__" : Str)) = false := by decide)
    (hpl : ((backTo pos (starEach [] X.env)).any (·.1) || (backToKw pos (keywordEach kws X.env)).any (·.1.isNone)) = false := by rfl) :
    PE X (.Call (.Name x p) [] kws pos) (tMkE C 0 ks.length fsOf tNil tk) := by
  refine ⟨fun pins s σ H Q I h => ?_⟩
  refine wpAny_Call_Name_kw (ld_glob I hg hm ?_ hdb)
  refine PySem.W.callWith_KW0 (h₀ := X.base) I.ok.mod.kin hk hall ?_ hpl
  refine thn (hkw.run pos pins s σ H _ I h) fun ws s2 ⟨zs, H2, I2, rz, _, l2, q2⟩ => ⟨I2.kIn, ?_⟩
  rw [hks]
  exact run_mkr (us := []) (vs := []) M hr I2 .nil rz rfl l2 q2
end

/-! ### its fields -/
/-- at a: an object of the class at C with its dict at d (an error that flew has other fields) -/
def exl (a C d : Addr) : HO := .ext fun h => ∃ o vs, h.get? a = some o ∧ o.cls = .ref C ∧ o.dict = some d ∧ o.data = .fields vs
theorem exl_ok {P : Program} {w : World} {H : Hp} {h : Heap} {a C d : Addr} {o : Obj} {vs : Array Value} (e : h.get? a = some o) (hc : o.cls = .ref C) (hd : o.dict = some d) (hv : o.data = .fields vs) : ObjOk P w H h a (exl a C d) :=
  ⟨⟨o, vs, e, hc, hd, hv⟩, ⟨o, e⟩, fun h1 h2 z k => by
    obtain ⟨o, vs, q, r⟩ := z
    exact ⟨o, vs, k _ q, r⟩⟩
/-- at a (read): an error of the class at C with the fields fs -/
def ErAt (H : Hp) (a C : Addr) (fs : List (Str × V)) : Prop := ∃ d, (Rd H a (exo a C (some d)) ∨ Rd H a (exl a C d)) ∧ (H d = some (exd d fs) ∨ H d = some (.xd fs))
theorem ErAt.look {X : Cx} {pins : List (Addr × Obj)} {σ : St} {H : Hp} {s : Shared} {a C : Addr} {fs : List (Str × V)} (I : Inv X pins σ H s) (e : ErAt H a C fs) :
    ∃ ox od, PySem.W.InstAt s.heap a ox C (some od) ∧ ∃ m : Str → Option Value, (∀ n, PySem.W.lookIn n od = some (m n)) ∧ ∀ f, RelO (fs.lookup f) (m f) := by
  obtain ⟨d, ha, hd⟩ := e
  have oa : ∃ o vs, s.heap.get? a = some o ∧ o.cls = .ref C ∧ o.dict = some d ∧ o.data = .fields vs := by
    rcases ha with ha | ha
    · have oa : ObjOk X.prog X.w H s.heap a (exo a C (some d)) := ha.ok I.hok
      have oa' : ObjOk X.prog X.w H s.heap a (.ext fun h => ∃ t1 : Addr, h.get? a = some ({ cls := .ref C, dict := some d, data := .fields #[.ref t1, .none, .none, .none, .bool false, .none] } : Obj)) := oa
      obtain ⟨t1, hx⟩ := oa'.1
      exact ⟨_, _, hx, rfl, rfl, rfl⟩
    · have oa : ObjOk X.prog X.w H s.heap a (exl a C d) := ha.ok I.hok
      have oa' : ObjOk X.prog X.w H s.heap a (.ext fun h => ∃ o vs, h.get? a = some o ∧ o.cls = .ref C ∧ o.dict = some d ∧ o.data = .fields vs) := oa
      exact oa'.1
  obtain ⟨ox, vs, hx, hc, hdd, hv⟩ := oa
  have od : ∃ mA, s.heap.Ns1 d mA ∧ ∀ f, RelO (fs.lookup f) (mA f) := by
    rcases hd with hd | hd
    · exact exd_at I.hok hd
    · exact I.hok d _ hd
  obtain ⟨mA, hn, hr⟩ := od
  obtain ⟨o, ho, hl⟩ := lookIn_ns hn
  exact ⟨ox, o, ⟨hx, hc, by unfold PySem.W.notCls; rw [hv] <;> rfl, by rw [hdd]; exact ho⟩, mA, hl, hr⟩
/-- e.f -/
def tEf (C : Addr) (f : Str) (te : TE) : TE := fun σ H Q => te σ H fun x H1 => ∃ a fs v, x = .ref a ∧ ErAt H1 a C fs ∧ fs.lookup f = some v ∧ Q v H1
section
variable {X : Cx}
theorem pe_ef {e : Expr} {te : TE} {pos : Pos} {n : Str} (he : PE X e te) (hb : attributeBase e n X.env (eval e X.env) = eval e X.env := by rfl) :
    PE X (.Attribute e n pos) (fun σ H Q => te σ H fun x H1 => ∃ a C fs v, x = .ref a ∧ XfC X.K C ∧ PySem.W.findIn X.K (.ref C) n = some none ∧ ErAt H1 a C fs ∧ fs.lookup n = some v ∧ Q v H1) := by
  refine ⟨fun pins s σ H Q I h => ?_⟩
  refine attr_of hb (thn (he.run pins s σ H _ I h) fun u s1 hh => ?_)
  obtain ⟨x, H1, I1, rx, a, C, fs, v, rfl, T, hno, ea, l, q⟩ := hh
  obtain rfl : u = Value.ref a := rx
  obtain ⟨ox, od, J, m, hl, hr⟩ := ea.look I1
  obtain ⟨u, hu, ru⟩ := RelO.some_of (v := v) (o := m n) (by rw [← l]; exact hr n)
  exact HandSPX.exc_get I1.kIn J T.ga T.gg T.exC (PySem.W.findObj_own T.hdC hno rfl (by rw [hl, hu])) (handed_of ru) ⟨v, H1, I1.tok _, ru, q⟩
/-- at a: an error of the class at D, with a dict or (not stored to) without -/
def ErI (H : Hp) (a D : Addr) : Prop := (∃ fs, ErAt H a D fs) ∨ H a = some (exo a D none)
theorem ErI.look {pins : List (Addr × Obj)} {σ : St} {H : Hp} {s : Shared} {a D : Addr} (I : Inv X pins σ H s) (e : ErI H a D) : ∃ ox od, PySem.W.InstAt s.heap a ox D od := by
  rcases e with ⟨fs, e⟩ | e
  · obtain ⟨ox, od, J, _⟩ := e.look I
    exact ⟨ox, some od, J⟩
  · obtain ⟨t1, hx⟩ := exo_at I.hok e
    exact ⟨_, none, ⟨hx, rfl, rfl, trivial⟩⟩
/-- isinstance(e, c) -/
def rIsErr (K : PySem.W.Frag) : List V → Hp → VK → Prop := fun xs H Q => ∃ (a D : Addr) (c : V) (cv : Value) (b : Bool), xs = [.ref a, c] ∧ ExcC K D ∧ ErI H a D ∧ (∀ u, RelV c u → u = cv) ∧ PySem.W.kitOne K (.ref D) cv = some b ∧ Q (.bl b) H
theorem call_isErr : CallR X (.builtin "isinstance") (rIsErr X.K) := by
  intro pins s σ H xs us Q I r h
  obtain ⟨a, D, c, cv, b, rfl, C, ea, hcv, e, q⟩ := h
  cases r with
  | cons rx rr =>
    cases rr with
    | cons rt rr =>
      cases rr
      cases rx
      have ec := hcv _ rt
      subst ec
      obtain ⟨ox, od, J⟩ := ea.look I
      have hcl : (PySem.W.clsIn X.K D).isSome = true := by
        obtain ⟨cd, hc, _⟩ := PySem.W.any_some C.hd
        rw [hc]; rfl
      exact PySem.W.kia_one (PySem.W.kitx_exc hcl C.hg C.hk C.hs C.ha C.hn C.ht C.hm) I.kIn J e (fun z => nomatch z) fun tk => ⟨.bl b, H, I.kept (t' := tk) fun _ _ z => z, rfl, q⟩
/-- .. of the error that a suite holds -/
def rIsHeld (K : PySem.W.Frag) (a : Addr) (cls : Value) (d : Option Addr) : List V → Hp → VK → Prop := fun xs H Q => ∃ (D dd : Addr) (c : V) (cv : Value) (b : Bool) (fs : List (Str × V)), cls = .ref D ∧ d = some dd ∧ ExcC K D ∧ xs = [.ref a, c] ∧ H dd = some (.xd fs) ∧ (∀ u, RelV c u → u = cv) ∧ PySem.W.kitOne K (.ref D) cv = some b ∧ Q (.bl b) H
theorem call_isHeld {a : Addr} {cls : Value} {d : Option Addr} {oe : Obj} {pn : List (Addr × Obj)} (hz : Zc cls d oe) (hf : ∃ vs, oe.data = .fields vs) : CallR (X.suite a ((a, oe) :: pn)) (.builtin "isinstance") (rIsHeld X.K a cls d) := by
  intro pins s σ H xs us Q I r h
  obtain ⟨D, dd, c, cv, b, fs, rfl, rfl, C, rfl, hd, hcv, e, q⟩ := h
  cases r with
  | cons rx rr =>
    cases rr with
    | cons rt rr =>
      cases rr
      cases rx
      have ec := hcv _ rt
      subst ec
      obtain ⟨hat, _⟩ := I.pin (a, oe) (List.mem_append.mpr (.inl List.mem_cons_self))
      obtain ⟨vs, hv⟩ := hf
      obtain ⟨mA, hn, _⟩ : ∃ mA, s.heap.Ns1 dd mA ∧ ∀ f, RelO (fs.lookup f) (mA f) := I.hok dd _ hd
      obtain ⟨od, ho, _⟩ := lookIn_ns hn
      have J : PySem.W.InstAt s.heap a oe D (some od) := ⟨hat, hz.1, by unfold PySem.W.notCls; rw [hv] <;> rfl, by rw [hz.2]; exact ho⟩
      have hcl : (PySem.W.clsIn X.K D).isSome = true := by
        obtain ⟨cd, hc, _⟩ := PySem.W.any_some C.hd
        rw [hc]; rfl
      exact PySem.W.kia_one (PySem.W.kitx_exc hcl C.hg C.hk C.hs C.ha C.hn C.ht C.hm) I.kIn J e (fun z => nomatch z) fun tk => ⟨.bl b, H, I.kept (t' := tk) fun _ _ z => z, rfl, q⟩
end
end L2
set_option Elab.async false
set_option linter.all false
set_option maxRecDepth 100000
set_option maxHeartbeats 4000000
namespace PySem.ErrX
open PySem PySem.W
theorem fo_given : FldOk (Str.ofString "given") := ⟨rfl, rfl, rfl, rfl, by decide +kernel, by decide +kernel, by decide +kernel, fun _ _ _ _ _ _ _ _ _ _ _ _ _ => rfl, fun _ _ _ _ _ _ _ _ _ _ _ _ _ => rfl⟩
theorem fo_index : FldOk (Str.ofString "index") := ⟨rfl, rfl, rfl, rfl, by decide +kernel, by decide +kernel, by decide +kernel, fun _ _ _ _ _ _ _ _ _ _ _ _ _ => rfl, fun _ _ _ _ _ _ _ _ _ _ _ _ _ => rfl⟩
theorem fo_text : Fld2 (Str.ofString "line") (Str.ofString "column") := ⟨fun _ _ _ _ _ _ _ _ _ _ _ _ _ _ _ => rfl, fun _ _ _ _ _ _ _ _ _ _ _ _ _ _ _ => rfl, rfl, rfl, rfl, rfl, rfl, by decide +kernel, by decide +kernel, by decide +kernel, by decide +kernel, by decide +kernel, by decide +kernel⟩
end PySem.ErrX
namespace L2
open PySem PySem.Spec PyProof.Rows PySem.ErrX
/-! ### such an error raised -/
section
variable {X : Cx} {C : Addr} {n : Nat} {ks : List Str} {fsOf : List V → List (Str × V)} {x : Str} {p pos : Pos} {e : Expr} {es : List Expr} {kws : List Keyword} {t tk : TA} {k : Nat}
theorem mkp_of {pins : List (Addr × Obj)} {σ : St} {H : Hp} {Q : XK} {hp h' : Heap} {g : Array GenState} {dr : Drawn} {t1 t2 : Nat} {os : OsState} {a d : Addr} {m : Str → Option Value} {fs : List (Str × V)} (I : Inv X pins σ H ⟨hp, g, dr, t1, os⟩) (M : ErMade hp h' a C d m)
    (hr : Raises X (.ref C)) (hm : ∀ f, RelO (fs.lookup f) (m f)) (q : ∀ d, H d = none → Q (.ref C) (some d) (upd H d (.xd fs))) : MkP X pins σ Q (.ref a) ⟨h', g, dr, t2, os⟩ := by
  obtain ⟨u, ho⟩ := M.obj
  have hns := M.ns
  obtain ⟨G, g1, g2⟩ := restrict h' fun b => decide (b ≠ a)
  have gk : ∀ b, b ≠ a → G.get? b = h'.get? b := fun b hb => g1 b (decide_eq_true hb)
  have ge : G.get? a = none := g2 a (by simp)
  have old : ∀ b o, hp.get? b = some o → G.get? b = some o := fun b o q => (gk b (Nat.ne_of_lt (Nat.lt_of_lt_of_le (Heap.lt_size q) M.new))).trans (M.keep b o q)
  have ob : ObjOk X.prog X.w (upd H d (.xd fs)) G d (.xd fs) := ⟨_, hns.at (fun o q => (gk d M.dne).trans q), hm⟩
  have J : Inv X pins σ (upd H d (.xd fs)) ⟨G, g, dr, t2, os⟩ := I.laid (t' := t2) old M.dbig ob
  refine ⟨a, _, _, ⟨G, g, dr, t2, os⟩, _, .ref C, some d, rfl, J, fun b o q => ?_, ge, ho, ⟨rfl, rfl⟩, rfl, rfl, ?_, rfl, I.bare, hr, q d (I.hok.fresh M.dbig)⟩
  · by_cases hb : b = a
    · have q' : G.get? b = some o := q
      rw [hb, ge] at q'; cases q'
    · exact (gk b hb).symm.trans q
  · rw [upd_ne (Ne.symm M.dne)]
    exact I.hok.fresh M.new
/-- C(..) to be raised -/
def tMkX (C : Addr) (n m : Nat) (fsOf : List V → List (Str × V)) (t tk : TA) : St → Hp → XK → Prop := fun σ H Q => t σ H fun vs H1 => tk σ H1 fun zs H2 => vs.length = n ∧ zs.length = m ∧
  ∀ d, H2 d = none → Q (.ref C) (some d) (upd H2 d (.xd (fsOf (vs ++ zs))))
theorem pmk_mkr (M : Mkr X.prog X.w X.K X.mg X.base C n [] fsOf) (hR : Raises X (.ref C)) (hr : Room (k + 1) X.A) (hg : Gl X x) (hm : X.mg x = some (.ref C)) (hk : PySem.W.keepIn X.K (.ref C) = true) (ha : PA X (e :: es) t)
    (hdb : (x == ("__debug__" : Str)) = false := by decide) (he : starEach (e :: es) X.env = (false, eval e X.env) :: starEach es X.env := by rfl) (hpl : (backTo pos (starEach es X.env)).any (·.1) = false := by rfl) :
    PMk X (.Call (.Name x p) (e :: es) [] pos) (tMkX C n 0 fsOf t tNil) := by
  intro pins s σ H Q I h
  refine wpAny_Call_Name_kw (ld_glob I hg hm ?_ hdb)
  refine PySem.W.callWith_K (h₀ := X.base) I.ok.mod.kin hk (thn (ha.run pos pins s σ H _ I h) fun us s1 ⟨vs, H1, I1, r, l1, _, q⟩ => ⟨I1.kIn, ?_⟩) he hpl
  show wpAny _ _ (call (.ref C) us ([].zip [])) _ _ _
  refine wpAny_call (M X.A _ s1 us [] vs [] r .nil l1 rfl I1.ok.mod I1.bk (by have := hr.dp; omega) fun h' tk a d m R hm => ?_)
  obtain ⟨hp, g, dr, t1, os⟩ := s1
  exact mkp_of I1 R hR hm q
theorem pmk_mkrK (M : Mkr X.prog X.w X.K X.mg X.base C 0 ks fsOf) (hR : Raises X (.ref C)) (hr : Room (k + 1) X.A) (hg : Gl X x) (hm : X.mg x = some (.ref C)) (hk : PySem.W.keepIn X.K (.ref C) = true) (hkw : PK X kws tk)
    (hall : (backToKw pos (keywordEach kws X.env)).all (·.1.isSome) = true := by rfl) (hks : (backToKw pos (keywordEach kws X.env)).filterMap (·.1) = ks := by rfl) (hdb : (x == ("__debug__" : Str)) = false := by decide)
    (hpl : ((backTo pos (starEach [] X.env)).any (·.1) || (backToKw pos (keywordEach kws X.env)).any (·.1.isNone)) = false := by rfl) :
    PMk X (.Call (.Name x p) [] kws pos) (tMkX C 0 ks.length fsOf tNil tk) := by
  intro pins s σ H Q I h
  refine wpAny_Call_Name_kw (ld_glob I hg hm ?_ hdb)
  refine PySem.W.callWith_KW0 (h₀ := X.base) I.ok.mod.kin hk hall ?_ hpl
  refine thn (hkw.run pos pins s σ H _ I h) fun ws s2 ⟨zs, H2, I2, rz, _, l2, q2⟩ => ⟨I2.kIn, ?_⟩
  rw [hks]
  refine wpAny_call (M X.A _ s2 [] ws [] zs .nil rz rfl l2 I2.ok.mod I2.bk (by have := hr.dp; omega) fun h' tk a d m R hm => ?_)
  obtain ⟨hp, g, dr, t1, os⟩ := s2
  exact mkp_of I2 R hR hm q2
end
end L2
set_option Elab.async false
set_option linter.all false
set_option maxRecDepth 100000
set_option maxHeartbeats 4000000
namespace L2
open PySem PySem.Spec PyProof.Rows PySem.ErrX
/-! ### several except clauses, some with a name -/
abbrev Su := Addr → Value → Option Addr → TS
/-- what the clauses wish, one after the other; a named one has its slot -/
def wMix (K : PySem.W.Frag) (D : Ends) : List (Value × Option Nat × Su) → WX
  | [] => fun _ _ _ _ => False
  | (c, none, ts) :: r => fun cls d σ H => ∃ b, PySem.W.exmOne K cls c = some b ∧ (b = true → ∀ a, H a = none → ts a cls d D σ H) ∧ (b = false → wMix K D r cls d σ H)
  | (c, some i, ts) :: r => fun cls d σ H => ∃ b, PySem.W.exmOne K cls c = some b ∧
      (b = true → ∀ a, H a = none → ts a cls d { nx := fun σ' H' => D.nx (σ'.set i none) H', rt := D.rt, bk := fun σ' H' => D.bk (σ'.set i none) H', ct := fun σ' H' => D.ct (σ'.set i none) H' } (σ.set i (some (.ref a))) H) ∧ (b = false → wMix K D r cls d σ H)
inductive HdsMix (X : Cx) : List ExceptHandler → List (Value × Option Nat × Su) → Prop
  | nil : HdsMix X [] []
  | cons {x : Str} {c : Value} {ts : Su} {b₀ : Stmt} {suite : List Stmt} {np pos' : Pos} {hds : List ExceptHandler} {l : List (Value × Option Nat × Su)} (hc : Names X x c)
      (hsu : ∀ (a : Addr) (oe : Obj) (cls : Value) (d : Option Addr) (pn : List (Addr × Obj)), Zc cls d oe → (∃ vs, oe.data = .fields vs) → X.base.get? a = none → PSs (X.suite a ((a, oe) :: pn)) (b₀ :: suite) (ts a cls d)) (r : HdsMix X hds l) :
      HdsMix X (.ExceptHandler (some (.Name x np)) none (b₀ :: suite) pos' :: hds) ((c, none, ts) :: l)
  | named {x n : Str} {i : Nat} {c : Value} {ts : Su} {b₀ : Stmt} {suite : List Stmt} {np pos' : Pos} {hds : List ExceptHandler} {l : List (Value × Option Nat × Su)} (hc : Names X x c) (hi : X.N[i]? = some n) (hln : X.env.kindOf n = some .local)
      (hsu : ∀ (a : Addr) (oe : Obj) (cls : Value) (d : Option Addr) (pn : List (Addr × Obj)), Zc cls d oe → (∃ vs, oe.data = .fields vs) → X.base.get? a = none → PSs (X.suite a ((a, oe) :: pn)) (b₀ :: suite) (ts a cls d)) (r : HdsMix X hds l) :
      HdsMix X (.ExceptHandler (some (.Name x np)) (some n) (b₀ :: suite) pos' :: hds) ((c, some i, ts) :: l)
section
variable {X : Cx} {body : List Stmt} {h₀ : ExceptHandler} {hds : List ExceptHandler} {l : List (Value × Option Nat × Su)} {pos : Pos} {tb : WX → TS}
theorem ps_try_mix (hs : X.stack = X.env :: X.outer) (hf : X.env.frame = some X.env.locals) (hN : X.N.Nodup)
    (hb : ∀ (W : WX) (pn : List (Addr × Obj)) (xe : Value → Shared → Prop), Takes (X.tr pn xe) W → PassesOwn (model X.prog X.w) X.A X.env xe → PSs (X.tr pn xe) body (tb W))
    (hh : HdsMix X (h₀ :: hds) l) : PS X (.Try body (h₀ :: hds) [] [] pos) (fun D σ H => tb (wMix X.K D l) D σ H) := by
  refine ⟨fun pins s σ H D I h => ?_⟩
  have ok := I.ok
  have fr : X.A.frames = some (X.env :: X.outer) := ok.frames.trans (congrArg some hs)
  refine wpAny_Try_except ?_
  have caught : ∀ u s', XE (X.tr (X.pn ++ pins) (fun e s₁ => wpAny (model X.prog X.w) X.A (noteFrame e X.env) (fun _ s₂ => wpAny (model X.prog X.w) X.A (setFlight e none) (fun _ s₃ => wpAny (model X.prog X.w) X.A (handleBy e X.env (h₀ :: hds)) (SP X pins D) X.xe s₃) X.xe s₂) X.xe s₁)) (wMix X.K D l) u s' →
      wpAny (model X.prog X.w) X.A (noteFrame u X.env) (fun _ s₂ => wpAny (model X.prog X.w) X.A (setFlight u none) (fun _ s₃ => wpAny (model X.prog X.w) X.A (handleBy u X.env (h₀ :: hds)) (SP X pins D) X.xe s₃) X.xe s₂) X.xe s' := by
    rintro u s' ⟨a, B, sI, _, σ', H', cls, d, rfl, J', nb, up, sky, na, os, ag, wish⟩
    have J : Inv X pins σ' H' sI := J'.ofTry ok
    have sky' : Sky B (X.env :: X.outer) a (Zc cls d) X.env.locals s'.heap := hs ▸ sky
    refine Sky.land Zc.steady fr hf sky' fun h3 fl3 up3 => ?_
    have J3 : Inv X pins σ' H' { s' with heap := h3 } := J.landed nb fl3.1 (up.trans up3) os ag
    obtain ⟨oe3, vs3, he3, hz3, hd3⟩ := fl3.there
    have off : a ∉ frs (X.env :: X.outer) := fun hm => by
      obtain ⟨_, o', e', no⟩ := fl3.2.2.1.mem hm
      cases he3.symm.trans e'
      exact no _ hd3
    have nL : a ≠ X.env.locals := fun z => off (List.mem_filterMap.mpr ⟨X.env, List.mem_cons_self, by rw [hf, z]⟩)
    have nF : a ∉ X.fs := fun hm => by
      obtain ⟨e, he, q⟩ := List.mem_filterMap.mp hm
      exact off (List.mem_filterMap.mpr ⟨e, List.mem_cons_of_mem _ he, q⟩)
    have nB : X.base.get? a = none := by
      cases q : X.base.get? a with
      | none => rfl
      | some o =>
        have z := nb a o (J.bk a o q) fun hm => by
          have y := (J.stack.mem hm).1
          rw [q] at y
          cases y
        rw [fl3.2.1] at z
        cases z
    have S3 := J3.suite he3 hd3 na nL nF
    have LT : PySem.W.Looks (model X.prog X.w) h3 (typeOf (.ref a)) cls := fun A Q E s k q => wpAny_typeOf_ref (k _ _ he3) (by rw [hz3.1]; exact q)
    have asked : ∀ {x : Str} {c : Value} {np : Pos} {Q : Value → Shared → Prop} {E : Value → Shared → Prop}, Names X x c → Q c { s' with heap := h3 } → wpAny (model X.prog X.w) (X.A.mark (some (.ref a))) (eval (.Name x np) X.env) Q E { s' with heap := h3 } := fun {x c np Q E} hc q => by
      obtain ⟨hg, hdbg, hm | ⟨hm, hv, hnn⟩⟩ := hc
      · exact ld_glob (X := X.suite a ((a, oe3) :: (X.pn ++ pins))) S3 hg hm q hdbg
      · exact ld_blt (X := X.suite a ((a, oe3) :: (X.pn ++ pins))) S3 hg hm hv q hnn hdbg
    have fourth : ∀ {h4 : Heap}, HandSPX.FlyingZ B (X.env :: X.outer) a (Zc cls d) h4 → h3.UpToSlots h4 → ∃ oe4, Zc cls d oe4 ∧ (∃ vs, oe4.data = .fields vs) ∧ Inv (X.suite a ((a, oe4) :: (X.pn ++ pins))) [] σ' H' { s' with heap := h4 } := fun {h4} fl4 up4 => by
      have J4 : Inv X pins σ' H' { s' with heap := h4 } := J.landed nb fl4.1 ((up.trans up3).trans up4) os ag
      obtain ⟨oe4, vs4, he4, hz4, hd4⟩ := fl4.there
      exact ⟨oe4, hz4, ⟨_, hd4⟩, J4.suite he4 hd4 na nL nF⟩
    have go : ∀ {hds' : List ExceptHandler} {l' : List (Value × Option Nat × Su)}, HdsMix X hds' l' → wMix X.K D l' cls d σ' H' → wpAny (model X.prog X.w) X.A (handleBy (.ref a) X.env hds') (SP X pins D) X.xe { s' with heap := h3 } := by
      intro hds' l' hk
      induction hk with
      | nil => exact fun z => z.elim
      | @cons x c ts b₀ suite np pos' hds2 l2 hc hsu r ih =>
        rintro ⟨b, hb1, hyes, hno⟩
        refine wpAny_handleBy_cons (codeAny_handlers_test ?_) (by intro q; cases q)
        refine asked hc ((PySem.W.exm_one (M := model X.prog X.w) J3.kIn LT hb1).here ?_)
        cases b with
        | false => exact ih (hno rfl)
        | true =>
          refine codeAny_handlers_suite (HandSPX.lands_againZ fl3 fun h4 fl4 up4 => ?_)
          obtain ⟨oe4, hz4, hd4, S4⟩ := fourth fl4 up4
          refine wpAny_mono ((hsu a oe4 cls d (X.pn ++ pins) hz4 hd4 nB).run [] _ _ H' _ S4 (hyes rfl a na)) (fun f s6 hsp => ?_) (fun _ _ z => False.elim z)
          match f, hsp with
          | .next, ⟨_, _, S6, q6⟩ => exact ⟨_, _, S6.unsuite ok, q6⟩
          | .brk, ⟨_, _, S6, q6⟩ => exact ⟨_, _, S6.unsuite ok, q6⟩
          | .cont, ⟨_, _, S6, q6⟩ => exact ⟨_, _, S6.unsuite ok, q6⟩
          | .ret u, ⟨_, _, _, S6, r6, q6⟩ => exact ⟨_, _, _, S6.unsuite ok, r6, q6⟩
      | @named x n i c ts b₀ suite np pos' hds2 l2 hc hi hln hsu r ih =>
        rintro ⟨b, hb1, hyes, hno⟩
        refine wpAny_handleBy_cons (codeAny_handlers_test ?_) (by intro q; cases q)
        refine asked hc ((PySem.W.exm_one (M := model X.prog X.w) J3.kIn LT hb1).here ?_)
        cases b with
        | false => exact ih (hno rfl)
        | true =>
          refine codeAny_handlers_suite_as (HandSPX.lands_againZ fl3 fun h4 fl4 up4 => ?_)
          obtain ⟨oe4, hz4, hd4, S4⟩ := fourth fl4 up4
          refine store_ok (X := X.suite a ((a, oe4) :: (X.pn ++ pins))) (v := .ref a) S4 hN hi (.inl hln) rfl (fun s5 S5 => ?_) (.inr hln)
          refine wpAny_mono ((hsu a oe4 cls d (X.pn ++ pins) hz4 hd4 nB).run [] s5 _ H' _ S5 (hyes rfl a na)) (fun f s6 hsp => ?_) (fun _ _ z => False.elim z)
          match f, hsp with
          | .next, ⟨_, _, S6, q6⟩ => exact gone_ok (S6.unsuite ok) hN hi hln fun s7 J7 => ⟨_, _, J7, q6⟩
          | .brk, ⟨_, _, S6, q6⟩ => exact gone_ok (S6.unsuite ok) hN hi hln fun s7 J7 => ⟨_, _, J7, q6⟩
          | .cont, ⟨_, _, S6, q6⟩ => exact gone_ok (S6.unsuite ok) hN hi hln fun s7 J7 => ⟨_, _, J7, q6⟩
          | .ret u, ⟨_, _, _, S6, r6, q6⟩ => exact gone_ok (S6.unsuite ok) hN hi hln fun s7 J7 => ⟨_, _, _, J7, r6, q6⟩
    exact go hh wish
  refine wpAny_mono ((hb (wMix X.K D l) (X.pn ++ pins) _ caught PassesOwn.looking).run [] s σ H D (I.toTry _) h) (fun f s1 hsp => ?_) (fun e s1 he => he)
  match f, hsp with
  | .next, ⟨σ', H', J', q⟩ => exact wpAny_execs_nil ⟨σ', H', J'.ofTry ok, q⟩
  | .brk, ⟨σ', H', J', q⟩ => exact ⟨σ', H', J'.ofTry ok, q⟩
  | .cont, ⟨σ', H', J', q⟩ => exact ⟨σ', H', J'.ofTry ok, q⟩
  | .ret u, ⟨v, σ', H', J', r, q⟩ => exact ⟨v, σ', H', J'.ofTry ok, r, q⟩
end
end L2
set_option Elab.async false
set_option linter.all false
set_option maxRecDepth 100000
set_option maxHeartbeats 4000000
namespace L2
open PySem PySem.Spec PyProof.Rows
/-! ### a def's promise where the state around (A) keeps a wish Z of one's own; nothing is raised -/
structure FnZ (Z : Around → Prop) (P : Program) (w : World) (K : PySem.W.Frag) (mg : Str → Option Value) (base : Heap) (f : Addr) (fd : FuncData) (ps : List Str) (sp : Sp) : Prop where
  len : ∀ vs H Q E, sp vs H Q E → vs.length = ps.length
  run : ∀ (A : Around) (outer : List Env) (s : Shared) (H : Hp) (args : Args) (us : List Value) (vs : List V) (Q : VK), Z A → Env0 P w K mg base A outer s H → BindsTo s fd args (ps.zip us) → Vals vs us → sp vs H Q E0 →
    codeAny (model P w) A (.call (.ref f) args) (CR CX0 outer P w H s Q E0) s
theorem FnOk.toZ {P : Program} {w : World} {K : PySem.W.Frag} {mg : Str → Option Value} {base : Heap} {k : Nat} {f : Addr} {fd : FuncData} {ps : List Str} {sp : Sp} {Z : Around → Prop} (F : FnOk P w K mg base CX0 k f fd ps sp) (h : ∀ A, Z A → Room k A) : FnZ Z P w K mg base f fd ps sp :=
  ⟨F.len, fun A outer s H args us vs Q z e b r q => F.run A outer s H args us vs Q E0 (h A z) e b r q⟩
/-- a def's body, calm or not -/
theorem Fun.okZ {Z : Around → Prop} (b : Bool) {P : Program} {w : World} {K : PySem.W.Frag} {mg : Str → Option Value} {base : Heap} {x qual : Str} {st : Stmt} {f : Addr} {fd : FuncData} {N ps : List Str} {sp : Sp} (F : Fun K x qual st f fd) (S : FnScope N ps (defScope st))
    (hZ : ∀ A, Z A → A.depth < recursionLimit) (hC : b = true → ∀ A, Z A → A.handled = none) (len : ∀ vs H Q E, sp vs H Q E → vs.length = ps.length)
    (hbody : ∀ (cdv : Value) (A : Around) (outer : List Env) (s : Shared) (H : Hp) (vs : List V) (Q : VK), Z A → sp vs H Q E0 →
      ∃ t, PSs ({ cxOf CX0 P w K mg base N qual (defScope st) f cdv A outer s H E0 with calm := b } : Cx).nox (defBody st) t ∧ t { nx := fun _ H' => Q .non H', rt := Q } (start N vs) H) : FnZ Z P w K mg base f fd ps sp := by
  obtain ⟨oc, od, kV, doc, pm, an, cdv, ct, osl, rfl, lk, hcd⟩ := F.ex
  refine ⟨len, fun A outer s H args us vs Q hz e0 hb r hsp => ?_⟩
  have hl := len _ _ _ _ hsp
  have KX : K.In s.heap := e0.mod.kin.keeps fun b o e => (e0.bs b o e).1
  have hkind : ∀ y ∈ ps.zip us, (defScope st).names.lookup y.1 = some .local ∨ ((defScope st).names.lookup y.1 = some .cell ∧ ((cellsFrom (s.heap.objs.size + 1) (defScope st).names []).lookup y.1).isSome = true) := fun ⟨n, v⟩ hy =>
    (S.par n (List.of_mem_zip hy).1).elim .inl fun q => .inr ⟨q, PySem.W.cellsFrom_some _ _ _ (.inl q)⟩
  refine codeAny_call_function (hZ A hz) (KX _ _ lk) rfl S.co S.gen rfl (PySem.W.codeRec_of KX hcd) (hb _ _ _ _ ?_)
  refine wpAny_newFunctionEnv_cells S.kind hkind fun env he s1 x => ?_
  subst he
  refine ⟨(e0.mod.nolimit.keeps fun b o e => (e0.bs b o e).1).keeps x.toInCall.keep, codeAny_func ?_⟩
  obtain ⟨t, ht, hq⟩ := hbody cdv A outer s H vs Q hz hsp
  -- the start: as for any def, at an around that handles nothing
  have I0 : Inv (cxOf CX0 P w K mg base N qual (defScope st) f cdv { A with handled := none } outer s H E0) [] (start N vs) H s1 := inv_start S rfl ⟨e0.frames, e0.mod, e0.bs, e0.bsz, e0.funs, e0.frf, e0.hok, e0.bare⟩ hl r x
  have I : Inv ({ cxOf CX0 P w K mg base N qual (defScope st) f cdv A outer s H E0 with calm := b } : Cx) [] (start N vs) H s1 := by
    have ok := I0.ok
    exact ⟨⟨ok.mod, ok.kind, ok.glob, ok.blt, ok.above, ok.inj, ok.has, ok.cab, fun q => hC q A hz, Around.frames_deeper e0.frames, ok.stk, ok.exf, ok.bs, ok.bsz, ok.noex, ok.exfs, ok.funs, ok.frf⟩,
      I0.os, I0.bare, I0.base, I0.loc, I0.cell, I0.free, I0.freeC, I0.pin, I0.hok, I0.len⟩
  refine wpAny_mono (ht.nox.run [] s1 (start N vs) H _ I hq) (fun fl s' hs => ?_) fun e s' hs => hs
  match fl, hs with
  | .ret u, ⟨v, _, H', J, rv, q⟩ => exact ⟨v, H', J.os, J.bare, J.base, J.hok, rv, q⟩
  | .next, ⟨_, H', J, q⟩ => exact ⟨.non, H', J.os, J.bare, J.base, J.hok, rfl, q⟩
  | .brk, ⟨_, _, _, q⟩ => exact False.elim q
  | .cont, ⟨_, _, _, q⟩ => exact False.elim q
section
variable {X : Cx} {Z : Around → Prop} {f : Addr} {fd : FuncData} {ps : List Str} {sp : Sp} {x : Str} {p pos : Pos} {e : Expr} {es : List Expr} {t : TA}
theorem run_fnZ {pins : List (Addr × Obj)} {σ : St} {H : Hp} {s : Shared} {Q : VK} {us : List Value} {vs : List V} (F : FnZ Z X.prog X.w X.K X.mg X.base f fd ps sp) (hz : Z X.A) (hb : Binds X.K fd ps [])
    (I : Inv X pins σ H s) (r : Vals vs us) (h : sp vs H Q E0) {E : Value → Shared → Prop} : wpAny (model X.prog X.w) X.A (call (.ref f) us) (EP X pins σ Q) E s := by
  have hl : (us ++ []).length = ps.length := by
    rw [List.append_nil, ← r.length]
    exact F.len _ _ _ _ h
  have b := hb s us I.kIn hl
  rw [List.append_nil] at b
  refine wpAny_call (codeAny_mono (F.run X.A X.stack s H ⟨us, []⟩ us vs Q hz I.env0 b r h) fun r s' hq => ?_)
  match r, hq with
  | .ok (.ret u), hq => exact I.after hq
/-- f(e, ..) -/
theorem pe_callZ (F : FnZ Z X.prog X.w X.K X.mg X.base f fd ps sp) (hz : Z X.A) (hg : Gl X x) (hm : X.mg x = some (.ref f)) (hk : PySem.W.keepIn X.K (.ref f) = true) (hb : Binds X.K fd ps [])
    (ha : PA X (e :: es) t) (hdb : (x == ("__debug__" : Str)) = false := by decide) (he : starEach (e :: es) X.env = (false, eval e X.env) :: starEach es X.env := by rfl) (hpl : (backTo pos (starEach es X.env)).any (·.1) = false := by rfl) :
    PE X (.Call (.Name x p) (e :: es) [] pos) (fun σ H Q => t σ H fun vs H1 => sp vs H1 Q E0) := by
  refine ⟨fun pins s σ H Q I h => ?_⟩
  refine wpAny_Call_Name_kw (ld_glob I hg hm ?_ hdb)
  refine PySem.W.callWith_K (h₀ := X.base) I.ok.mod.kin hk (thn (ha.run pos pins s σ H _ I h) fun us s1 ⟨vs, H1, I1, r, q⟩ => ⟨I1.kIn, ?_⟩) he hpl
  exact run_fnZ F hz hb I1 r q
end
/-! ### the rooms -/
/-- nothing is handled, and no repr runs -/
structure RoomG (k : Nat) (A : Around) : Prop where
  room : Room k A
  gs : A.guards = some []
theorem RoomG.mono {j k : Nat} {A : Around} (r : RoomG k A) (h : j ≤ k) : RoomG j A := ⟨r.room.mono h, r.gs⟩
theorem deeper_guards {A : Around} {env : Env} : (A.deeper env).guards = A.guards := by
  cases A with
  | mk d h fr g u => cases g <;> rfl
theorem RoomG.deeper {k : Nat} {A : Around} (r : RoomG (k + 1) A) (env : Env) : RoomG k (A.deeper env) := ⟨r.room.deeper env, deeper_guards.trans r.gs⟩
theorem RoomG.depth {k : Nat} {A : Around} (r : RoomG k A) : A.depth < recursionLimit := r.room.depth
/-- room, whatever is handled -/
structure RoomA (k : Nat) (A : Around) : Prop where
  dp : A.depth + 3 * k + 5 < recursionLimit
  un : A.units + 16 * k + 200 < cLine
theorem RoomA.of {k : Nat} {A : Around} (r : Room k A) : RoomA k A := ⟨r.dp, r.un⟩
theorem RoomA.mark {k : Nat} {A : Around} (r : Room k A) (v : Option Value) : RoomA k (A.mark v) := ⟨r.dp, r.un⟩
theorem RoomA.depth {k : Nat} {A : Around} (r : RoomA k A) : A.depth < recursionLimit := by have := r.dp; omega
/-! ### a def called in a suite, the held error among what is passed -/
section
variable {X : Cx} {a : Addr} {oe : Obj} {pn : List (Addr × Obj)} {cls : Value} {d : Option Addr} {Z : Around → Prop} {f : Addr} {fd : FuncData} {ps : List Str} {sp : Sp} {x : Str} {p pos : Pos} {e : Expr} {es : List Expr} {t : TA}
def tHeld (a : Addr) (cls : Value) (d : Option Addr) (sp : Sp) (t : TA) : TE := fun σ H Q => t σ H fun vs H1 => ∃ C dd, cls = .ref C ∧ d = some dd ∧ ∀ o, sp vs (upd H1 a (.frz o (exl a C dd))) (fun v H2 => Q v (del H2 a)) E0
theorem pe_callHeld (hz : Zc cls d oe) (hv : ∃ vs, oe.data = .fields vs) (nB : X.base.get? a = none) (F : FnZ Z X.prog X.w X.K X.mg X.base f fd ps sp) (hr : Z (X.suite a ((a, oe) :: pn)).A) (hg : Gl (X.suite a ((a, oe) :: pn)) x) (hm : X.mg x = some (.ref f)) (hk : PySem.W.keepIn X.K (.ref f) = true) (hb : Binds X.K fd ps [])
    (ha : PA (X.suite a ((a, oe) :: pn)) (e :: es) t) (hdb : (x == ("__debug__" : Str)) = false := by decide) (he : starEach (e :: es) X.env = (false, eval e X.env) :: starEach es X.env := by rfl) (hpl : (backTo pos (starEach es X.env)).any (·.1) = false := by rfl) :
    PE (X.suite a ((a, oe) :: pn)) (.Call (.Name x p) (e :: es) [] pos) (tHeld a cls d sp t) := by
  refine ⟨fun pins s σ H Q I h => ?_⟩
  refine wpAny_Call_Name_kw (ld_glob I hg hm ?_ hdb)
  refine PySem.W.callWith_K (h₀ := X.base) I.ok.mod.kin hk (thn (ha.run pos pins s σ H _ I h) fun us s1 ⟨vs, H1, I1, r, C, dd, ec, ed, q⟩ => ⟨I1.kIn, ?_⟩) he hpl
  subst ec
  subst ed
  obtain ⟨fv, hv⟩ := hv
  obtain ⟨hat, hno, nL, nF, _⟩ := I1.pin (a, oe) (List.mem_append_left _ List.mem_cons_self)
  have hat : s1.heap.get? a = some oe := hat
  have hno : H1 a = none := hno
  have up : ∀ {b u}, H1 b = some u → upd H1 a (.frz oe (exl a C dd)) b = some u := fun {b u} z => by rw [upd_ne (ne_of_none z hno)]; exact z
  have hok : HOk X.prog X.w (upd H1 a (.frz oe (exl a C dd))) s1.heap := fun b u z => by
    by_cases hb : b = a
    · subst hb
      rw [upd_same] at z
      cases z
      exact ⟨hat, exl_ok hat hz.1 hz.2 hv⟩
    · rw [upd_ne hb] at z
      exact (I1.hok b u z).stay (fun _ _ _ y => y) (fun _ y => up y) fun _ _ y => up y
  have nfr : ∀ b ∈ frs X.stack, b ≠ a := fun b hb z => by
    rcases List.mem_cons.mp (I1.stkSub b hb) with y | y
    · exact nL (z.symm.trans y)
    · exact nF (by rw [← z]; exact y)
  have E : Env0 X.prog X.w X.K X.mg X.base (X.suite a ((a, oe) :: pn)).A X.stack s1 (upd H1 a (.frz oe (exl a C dd))) :=
    ⟨I1.ok.frames, I1.ok.mod, fun b o z => ⟨I1.bk b o z, by rw [upd_ne (fun y => by rw [y, nB] at z; cases z)]; exact (I1.bs b o z).2⟩, Nat.le_trans I1.ok.bsz I1.sz, I1.stack,
      fun b hb => by rw [upd_ne (nfr b hb)]; exact I1.stkFree b hb, hok, I1.bare⟩
  have hl : (us ++ []).length = ps.length := by
    rw [List.append_nil, ← r.length]
    exact F.len _ _ _ _ (q oe)
  have hb' := hb s1 us I1.kIn hl
  rw [List.append_nil] at hb'
  show wpAny _ _ (call (.ref f) us) _ _ _
  refine wpAny_call (codeAny_mono (F.run _ X.stack s1 _ ⟨us, []⟩ us vs _ hr E hb' r (q oe)) fun r s' hq => ?_)
  match r, hq with
  | .ok (.ret u), ⟨v, H2, os, bare, un, hok2, rv, qv⟩ =>
    have h2a : H2 a = some (.frz oe (exl a C dd)) := un.frzs a oe _ upd_same
    have ha2 : s'.heap.get? a = some oe := (hok2 a _ h2a).1
    have nown : ∀ {b c}, H2 b = some (.own c) → b ≠ a := fun {b c} z y => by rw [y, h2a] at z; cases z
    have dn : ∀ {b u}, H2 b = some u → b ≠ a → del H2 a b = some u := fun {b u} z y => by rw [del_ne y]; exact z
    have hok3 : HOk X.prog X.w (del H2 a) s'.heap := fun b u z => by
      by_cases hb : b = a
      · rw [hb, del_same] at z
        cases z
      · rw [del_ne hb] at z
        exact (hok2 b u z).stay (fun _ _ _ y => y) (fun c y => dn y (nown y)) fun c xs y => dn y fun w => by rw [w, h2a] at y; cases y
    have U : Un (frs X.stack) [] H1 (del H2 a) s1.heap s'.heap := {
      keep := fun b o z n hf hx => by
        by_cases hb : b = a
        · rw [hb] at z ⊢
          rw [hat] at z
          rw [ha2]
          exact z
        · exact un.keep b o z (by rw [upd_ne hb]; exact n) hf hx
      slot := fun b o z n hf hx => un.slot b o z (by rw [upd_ne (nfr b hf)]; exact n) hf hx
      free := fun b o z n hx => by
        by_cases hb : b = a
        · rw [hb, del_same]
        · rw [del_ne hb]
          exact un.free b o z (by rw [upd_ne hb]; exact n) hx
      there := un.there
      tups := fun b xs z => dn (un.tups b xs (up z)) (ne_of_none z hno)
      frzs := fun b o u z => dn (un.frzs b o u (up z)) (ne_of_none z hno)
      tbls := fun b pp z => by
        obtain ⟨more, y⟩ := un.tbls b pp (up z)
        exact ⟨more, dn y (ne_of_none z hno)⟩ }
    exact ⟨v, del H2 a, I1.call' (ch := []) os U hok3 bare (fun _ z => nomatch z), rv, qv⟩
end
end L2
set_option Elab.async false
set_option linter.all false
set_option maxRecDepth 100000
set_option maxHeartbeats 1000000
/-! tuples of which it is known that they have no dict of their own, and what makes them -/
namespace L2
open PySem PySem.Spec PyProof.Rows
/-! ### plain tuples -/
/-- a tuple that has no dict of its own -/
def SqP (K : PySem.W.Frag) (H : Hp) (a : Addr) (xs : List V) : Prop :=
  (∃ o, H a = some (.frz o (.tup xs)) ∧ o.dict = none) ∨
    ∃ (o : Obj) (its : Array Value) (n : Nat), K.lookup a = some o ∧ o.cls = .type "tuple" ∧ o.dict = none ∧ o.data = .seq its n ∧ its.size ≤ sizeLine ∧ Vals xs its.toList
theorem SqP.seqT {K : PySem.W.Frag} {H : Hp} {a : Addr} {xs : List V} (h : SqP K H a xs) : SqT K H a xs := by
  rcases h with ⟨o, e, _⟩ | ⟨o, its, n, e, c, _, d, z, v⟩
  · exact .inl (.inr ⟨o, e⟩)
  · exact .inr ⟨o, its, n, e, c, d, z, v⟩
theorem SqP.of {K : PySem.W.Frag} {H : Hp} {a : Addr} {xs : List V} {o : Obj} (h : H a = some (.frz o (.tup xs))) (d : o.dict = none) : SqP K H a xs := .inl ⟨o, h, d⟩
section
variable {X : Cx} {pins : List (Addr × Obj)} {σ : St} {H : Hp} {s : Shared} {a : Addr} {xs : List V}
theorem Inv.plain (I : Inv X pins σ H s) (h : SqP X.K H a xs) : ∃ (o : Obj) (its : List Value) (n : Nat), Vals xs its ∧ s.heap.get? a = some o ∧ o.cls = .type "tuple" ∧ o.dict = none ∧ o.data = .seq its.toArray n ∧ xs.length ≤ sizeLine := by
  rcases h with ⟨o, e, d⟩ | ⟨o, its, n, e, c, d, dt, z, v⟩
  · obtain ⟨g, hz, its, rv, o', g', c, n, dt⟩ := I.hok a _ e
    have eo : o = o' := Option.some.inj (g.symm.trans g')
    subst eo
    exact ⟨o, its, n, rv, g, c, d, dt, hz⟩
  · have hl := v.length
    refine ⟨o, its.toList, n, v, I.kIn _ _ e, c, d, by rw [dt], by rw [hl]; simpa using z⟩
theorem new_frz {h' : Heap} {its : List Value} (r : Vals xs its) (hz : xs.length ≤ sizeLine) (e : h'.get? a = some { cls := .type "tuple", data := .seq its.toArray }) (P : Program) (w : World) :
    ObjOk P w H h' a (.frz { cls := .type "tuple", data := .seq its.toArray } (.tup xs)) := ⟨e, hz, its, r, ⟨_, e, rfl, _, rfl⟩⟩
end
section
variable {X : Cx}
/-! ### what makes them -/
def tTupN (t : TA) : TE := fun σ H Q => t σ H fun xs H1 => xs.length ≤ sizeLine ∧ ∀ p o, H1 p = none → o.dict = none → Q (.ref p) (upd H1 p (.frz o (.tup xs)))
theorem pe_tupN {es : List Expr} {t : TA} {pos : Pos} {x1} (h : PA X es t) : PE X (.Tuple es x1 pos) (tTupN t) := by
  refine ⟨fun pins s σ H Q I hq => ?_⟩
  refine wpAny_Tuple_spliced (thn (h.run pos pins s σ H _ I hq) fun us s1 ⟨xs, H1, I1, r, z, q⟩ => ⟨by rw [← r.length]; exact z, ?_⟩)
  have hf : H1 s1.heap.objs.size = none := I1.hok.fresh (Nat.le_refl _)
  exact ⟨.ref s1.heap.objs.size, _, I1.laid (t' := s1.toks) (fun b u e => Heap.get?_push_of_some _ e) (Nat.le_refl _) (new_frz r z (Heap.get?_push_size _ rfl) _ _), rfl, q _ _ hf rfl⟩
/-- t + u -/
def rCatN (K : PySem.W.Frag) : R2 := fun x y H Q => ∃ a b xs ys, x = .ref a ∧ y = .ref b ∧ SqT K H a xs ∧ SqT K H b ys ∧ xs.length + ys.length ≤ sizeLine ∧
  (xs = [] → Q (.ref b) H) ∧ (xs ≠ [] → ys = [] → Q (.ref a) H) ∧ (xs ≠ [] → ys ≠ [] → ∀ p o, H p = none → o.dict = none → Q (.ref p) (upd H p (.frz o (.tup (xs ++ ys)))))
theorem op_catN : OpR X (binaryOp .Add) (rCatN X.K) := by
  intro pins s σ H x y v u Q I rx ry h
  obtain ⟨a, b, xs, ys, rfl, rfl, ha, hb, hz, q0, q1, q2⟩ := h
  cases rx
  cases ry
  obtain ⟨its, r1, p1, _⟩ := I.tuple ha
  obtain ⟨its2, r2, p2, _⟩ := I.tuple hb
  by_cases hx : xs = []
  · subst hx
    cases r1
    exact cat_tup0 p1 p2 ⟨.ref b, H, I, rfl, q0 rfl⟩
  · refine HT.cat_tup p1 p2 (fun z => hx (r1.nil_iff.mp z)) (fun z => ⟨.ref a, H, I, rfl, q1 hx (r2.nil_iff.mp z)⟩) (fun z => ?_) (by rw [← r1.length, ← r2.length]; exact hz)
    exact ⟨.ref s.heap.objs.size, _, I.laid (t' := s.toks) (fun b ob q => Heap.get?_push_of_some _ q) (Nat.le_refl _) (new_frz (r1.append r2) (by rw [List.length_append]; exact hz) (Heap.get?_push_size _ rfl) _ _), rfl,
      q2 hx (fun w => z (r2.nil_iff.mpr w)) _ _ (I.hok.fresh (Nat.le_refl _)) rfl⟩
/-- t[lo:hi]: the whole of it is t itself -/
def rSlN (K : PySem.W.Frag) : V → Option Int → Option Int → Hp → VK → Prop := fun x lo hi H Q => ∃ a xs, x = .ref a ∧ SqT K H a xs ∧
  (HT.sIx xs.length 0 lo = 0 ∧ HT.sIx xs.length xs.length hi = xs.length → Q (.ref a) H) ∧ (¬ (HT.sIx xs.length 0 lo = 0 ∧ HT.sIx xs.length xs.length hi = xs.length) → ∀ p o, H p = none → o.dict = none → Q (.ref p) (upd H p (.frz o (.tup (cutV xs lo hi)))))
theorem sl_tupN : SlR X (rSlN X.K) := by
  intro pins s σ H x v vl vu lo hi sl Q I rx hs pl pu h
  obtain ⟨a, xs, rfl, hx, q1, q2⟩ := h
  cases rx
  obtain ⟨its, r, ht, hz⟩ := I.tuple hx
  have hlen : its.toArray.size = xs.length := by rw [List.size_toArray]; exact r.length.symm
  refine ⟨"tuple", _, PyProof.Rows.slot_tuple_getitem.lookup, ht.typeIs, ?_⟩
  by_cases hw : HT.sIx xs.length 0 lo = 0 ∧ HT.sIx xs.length xs.length hi = xs.length
  · exact getItem_tuple_whole ht hs pl pu (by rw [hlen]; exact hw) ⟨.ref a, H, I, rfl, q1 hw⟩
  · refine HT.getItem_tuple_cut ht hs pl pu (by rw [hlen]; exact hw) ?_ (by rw [hlen]; exact hz)
    rw [hlen]
    exact ⟨.ref s.heap.objs.size, _, I.laid (t' := s.toks) (fun b ob q => Heap.get?_push_of_some _ q) (Nat.le_refl _)
      (new_frz ((r.drop (HT.sIx xs.length 0 lo)).take (HT.sIx xs.length xs.length hi - HT.sIx xs.length 0 lo)) (Nat.le_trans (cutV_length xs lo hi) hz) (Heap.get?_push_size _ rfl) _ _), rfl, q2 hw _ _ (I.hok.fresh (Nat.le_refl _)) rfl⟩
/-- tuple(a list): a new one; of a tuple: itself -/
theorem call_tupleN : CallR X (.type "tuple") (fun xs H Q => ∃ p ys, xs = [.ref p] ∧ ((SqL X.K H p ys ∧ ∀ l o, H l = none → o.dict = none → Q (.ref l) (upd H l (.frz o (.tup ys)))) ∨ (SqT X.K H p ys ∧ Q (.ref p) H))) := by
  intro pins s σ H xs us Q I r h
  obtain ⟨p, ys, rfl, h⟩ := h
  obtain ⟨u, rfl, rx⟩ := vals1 r
  cases rx
  rcases h with ⟨hq, q⟩ | ⟨hq, q⟩
  · obtain ⟨its, r', pl, hz⟩ := I.list hq
    have hlen := r'.length
    refine call_tuple_list pl.isList (fun h' kp => ?_) (by simp only [List.size_toArray] <;> omega)
    have I1 : Inv X pins σ H { s with heap := h' } := I.kept (t' := s.toks) kp
    exact ⟨.ref h'.objs.size, _, I1.laid (t' := s.toks) (fun b o e => Heap.get?_push_of_some _ e) (Nat.le_refl _) (new_frz r' hz (Heap.get?_push_size _ rfl) _ _), rfl, q _ _ (I1.hok.fresh (Nat.le_refl _)) rfl⟩
  · obtain ⟨its, r', pl, hz⟩ := I.tuple hq
    exact call_tuple_same pl ⟨.ref p, H, I, rfl, q⟩
end
end L2
set_option Elab.async false
set_option linter.all false
set_option maxRecDepth 100000
set_option maxHeartbeats 4000000
namespace L2
open PySem PySem.Spec PyProof.Rows
/-! ### data that is shown: none, bools, ints, texts, lists, tuples, empty dicts -/
mutual
inductive Dq (K : PySem.W.Frag) (H : Hp) : V → PyData → Prop
  | non : Dq K H .non .none
  | bl (b : Bool) : Dq K H (.bl b) (.bool b)
  | int (i : Int) : Dq K H (.int i) (.int i)
  | str (x : Str) : Dq K H (.str x) (.str x)
  | lst {a : Addr} {xs : List V} {ds : List PyData} : SqL K H a xs → DqAll K H xs ds → Dq K H (.ref a) (.list ds)
  | tup {a : Addr} {xs : List V} {ds : List PyData} : SqP K H a xs → DqAll K H xs ds → Dq K H (.ref a) (.tuple ds)
  | dic {a : Addr} : H a = some (.dK []) → Dq K H (.ref a) (.dict [])
inductive DqAll (K : PySem.W.Frag) (H : Hp) : List V → List PyData → Prop
  | nil : DqAll K H [] []
  | cons {v : V} {vs : List V} {d : PyData} {ds : List PyData} : Dq K H v d → DqAll K H vs ds → DqAll K H (v :: vs) (d :: ds)
end
section
variable {X : Cx} {pins : List (Addr × Obj)} {σ : St} {H : Hp} {s : Shared}
theorem dic_at (I : Inv X pins σ H s) {a : Addr} (h : H a = some (.dK [])) : ∃ o n, s.heap.get? a = some o ∧ o.cls = .type "dict" ∧ o.data = .dict #[] n ∧ (a == sysModules) = false := by
  obtain ⟨_, hs, vs, r, o, es, ep, ho, hx, hd, _, he, _⟩ : ([] : List (Key × V)).length ≤ sizeLine ∧ (a == sysModules) = false ∧ ∃ vs, KV ([] : List (Key × V)) vs ∧ s.heap.DictOf (mixKind X.prog X.w) a vs := I.hok a _ h
  cases r
  have e0 : es = #[] := by
    have z : es.toList = [] := by
      generalize es.toList = l at he
      cases he
      rfl
    simpa using congrArg List.toArray z
  subst e0
  exact ⟨o, ep, ho, hx.1, hd, hs⟩
mutual
theorem Dq.reads (I : Inv X pins σ H s) : ∀ (d : PyData) (v : V) (u : Value), Dq X.K H v d → RelV v u → ∃ as, Reads s.heap u d as
  | .none, _, _, .non, r => by cases r; exact ⟨_, Reads.none⟩
  | .bool b, _, _, .bl _, r => by cases r; exact ⟨_, Reads.bool b⟩
  | .int i, _, _, .int _, r => by obtain ⟨t, rfl⟩ := r; exact ⟨_, Reads.int i t⟩
  | .str x, _, _, .str _, r => by obtain ⟨t, rfl⟩ := r; exact ⟨_, Reads.str x t⟩
  | .list ds, _, _, .lst hs ha, r => by
    cases r
    obtain ⟨its, rv, ⟨o, n, ho, hc, _, hd⟩, _⟩ := I.list hs
    obtain ⟨as, hr⟩ := Dq.readsAll I ds _ its ha rv
    exact ⟨_, Reads.list ho hc hd hr⟩
  | .tuple ds, _, _, .tup hs ha, r => by
    cases r
    obtain ⟨its, rv, ⟨o, ho, hc, n, hd⟩, _⟩ := I.tuple hs.seqT
    obtain ⟨as, hr⟩ := Dq.readsAll I ds _ its ha rv
    exact ⟨_, Reads.tuple ho hc hd hr⟩
  | .dict [], _, _, .dic h, r => by
    cases r
    obtain ⟨o, n, ho, hc, hd, _⟩ := dic_at I h
    exact ⟨_, Reads.dict ho hc hd .nil .nil⟩
theorem Dq.readsAll (I : Inv X pins σ H s) : ∀ (ds : List PyData) (vs : List V) (us : List Value), DqAll X.K H vs ds → Vals vs us → ∃ as, ReadsAll s.heap us ds as
  | [], _, _, .nil, r => by cases r; exact ⟨_, ReadsAll.nil⟩
  | d :: ds, _, _, .cons h1 h2, r => by
    cases r with
    | cons r1 r2 =>
      obtain ⟨as, q1⟩ := Dq.reads I d _ _ h1 r1
      obtain ⟨bs, q2⟩ := Dq.readsAll I ds _ _ h2 r2
      exact ⟨_, ReadsAll.cons q1 q2⟩
end
/-- what is to be known of shown data -/
structure Fits (d : PyData) : Prop where
  ok : d.showable = true
  sz : d.shown.length ≤ sizeLine
mutual
theorem Dq.repr (I : Inv X pins σ H s) : ∀ (d : PyData) (v : V) (u : Value), Dq X.K H v d → RelV v u → d.showable = true → d.shown.length ≤ sizeLine → ∃ bs, ReadAtMost s.heap d.depth bs ∧ ReprK X.prog X.w bs s.heap d.depth u d.shown
  | .none, _, _, .non, r, _, _ => by cases r; exact ⟨[], (fun _ h => nomatch h), by simp only [PyData.shown]; exact .of_is ReprIs.none _ _ _⟩
  | .bool b, _, _, .bl _, r, _, _ => by cases r; exact ⟨[], (fun _ h => nomatch h), by simp only [PyData.shown]; exact .of_is (ReprIs.bool b) _ _ _⟩
  | .int i, _, _, .int _, r, hs, _ => by obtain ⟨t, rfl⟩ := r; exact ⟨[], (fun _ h => nomatch h), by simp only [PyData.shown]; exact .of_is (ReprIs.int t (by simpa [PyData.showable] using hs)) _ _ _⟩
  | .str x, _, _, .str _, r, _, hz => by obtain ⟨t, rfl⟩ := r; exact ⟨[], (fun _ h => nomatch h), by simp only [PyData.shown]; exact .of_is (ReprIs.str x t (by simpa only [PyData.shown] using hz)) _ _ _⟩
  | .list ds, _, _, .lst hs ha, r, ok, hz => by
    have D : Dq X.K H _ (.list ds) := .lst hs ha
    obtain ⟨as, R⟩ := Dq.reads I _ _ _ D r
    cases r
    have zt : (listText (PyData.shownAll ds)).length ≤ sizeLine := by simpa only [PyData.shown] using hz
    obtain ⟨its, rv, ⟨o, n, ho, hc, _, hd⟩, _⟩ := I.list hs
    obtain ⟨bs, hb, hk⟩ := Dq.reprAll I ds _ its ha rv (by simpa [PyData.showable] using ok) fun t ht => Nat.le_trans (listText_mem_le ht) zt
    have off := not_mem_of_deeper R (show PyData.depthAll ds < (PyData.list ds).depth by simp only [PyData.depth]; omega) hb
    refine ⟨_ :: bs, ReadAtMost.cons R (by simp only [PyData.depth]; omega) hb, ?_⟩
    simp only [PyData.depth, PyData.shown]
    cases its with
    | nil =>
      have e : PyData.shownAll ds = [] := List.eq_nil_of_length_eq_zero (by simpa using hk.length_eq)
      rw [e, listText_nil]
      exact ReprK.listEmpty ho hc hd
    | cons x l => exact ReprK.list ho hc hd off (by simpa using hk.length_eq) fun i y e => hk.item i y (by simpa using e)
  | .tuple ds, _, _, .tup hs ha, r, ok, hz => by
    have D : Dq X.K H _ (.tuple ds) := .tup hs ha
    obtain ⟨as, R⟩ := Dq.reads I _ _ _ D r
    cases r
    have zt : (tupleText (PyData.shownAll ds)).length ≤ sizeLine := by simpa only [PyData.shown] using hz
    obtain ⟨its, rv, ⟨o, ho, hc, n, hd⟩, _⟩ := I.tuple hs.seqT
    obtain ⟨bs, hb, hk⟩ := Dq.reprAll I ds _ its ha rv (by simpa [PyData.showable] using ok) fun t ht => Nat.le_trans (tupleText_mem_le ht) zt
    have off := not_mem_of_deeper R (show PyData.depthAll ds < (PyData.tuple ds).depth by simp only [PyData.depth]; omega) hb
    refine ⟨_ :: bs, ReadAtMost.cons R (by simp only [PyData.depth]; omega) hb, ?_⟩
    simp only [PyData.depth, PyData.shown]
    exact ReprK.tuple ho hc hd off hk
  | .dict [], _, _, .dic h, r, ok, hz => by
    have D : Dq X.K H _ (.dict []) := .dic h
    obtain ⟨as, R⟩ := Dq.reads I _ _ _ D r
    cases r
    obtain ⟨o, n, ho, hc, hd, hs⟩ := dic_at I h
    refine ⟨[_], ReadAtMost.cons (n := 0) R (Nat.zero_le _) (fun _ h => nomatch h), ?_⟩
    simp only [PyData.depth, PyData.depthKv, PyData.shown, PyData.shownKv]
    exact ReprK.dict ho hc hd hs (by simp) .nil
theorem Dq.reprAll (I : Inv X pins σ H s) : ∀ (ds : List PyData) (vs : List V) (us : List Value), DqAll X.K H vs ds → Vals vs us → PyData.showableAll ds = true → (∀ t ∈ PyData.shownAll ds, t.length ≤ sizeLine) →
    ∃ bs, ReadAtMost s.heap (PyData.depthAll ds) bs ∧ ReprAllK X.prog X.w bs s.heap (PyData.depthAll ds) us (PyData.shownAll ds)
  | [], _, _, .nil, r, _, _ => by cases r; exact ⟨[], (fun _ h => nomatch h), by simp only [PyData.shownAll]; exact .nil⟩
  | d :: ds, _, _, .cons h1 h2, r, ok, hz => by
    cases r with
    | cons r1 r2 =>
      have ok' : d.showable = true ∧ PyData.showableAll ds = true := by simpa [PyData.showableAll] using ok
      obtain ⟨b1, m1, k1⟩ := Dq.repr I d _ _ h1 r1 ok'.1 (hz _ (by simp only [PyData.shownAll]; exact List.mem_cons_self ..))
      obtain ⟨b2, m2, k2⟩ := Dq.reprAll I ds _ _ h2 r2 ok'.2 fun t ht => hz t (by simp only [PyData.shownAll]; exact List.mem_cons_of_mem _ ht)
      refine ⟨b1 ++ b2, ?_, ?_⟩
      · simp only [PyData.depthAll]
        exact (m1.mono (Nat.le_max_left _ _)).append (m2.mono (Nat.le_max_right _ _))
      · simp only [PyData.depthAll, PyData.shownAll]
        exact .cons ((k1.more fun b hb => List.mem_append_left _ hb).level_le (Nat.le_max_left _ _)) (k2.more_le (fun b hb => List.mem_append_right _ hb) (Nat.le_max_right _ _))
end
/-- repr of a list -/
def rRepL (K : PySem.W.Frag) : List V → Hp → VK → Prop := fun xs H Q => ∃ (a : Addr) (ds : List PyData), xs = [.ref a] ∧ Dq K H (.ref a) (.list ds) ∧ (PyData.list ds).showable = true ∧ (PyData.list ds).shown.length ≤ sizeLine ∧ (PyData.list ds).depth ≤ 60 ∧ Q (.str (PyData.list ds).shown) H
theorem call_repL (hu : X.A.units + 64 < cLine) (hg : X.A.guards = some []) : CallR X (.builtin "repr") (rRepL X.K) := by
  intro pins s σ H xs us Q I r h
  obtain ⟨a, ds, rfl, D, ok, hz, hdep, q⟩ := h
  cases r with
  | cons rx rr =>
    cases rr
    have ru := rx
    cases rx
    obtain ⟨as, R⟩ := Dq.reads I _ _ _ D ru
    have zt : (listText (PyData.shownAll ds)).length ≤ sizeLine := by simpa only [PyData.shown] using hz
    have fin : ∀ (h' : Heap) (u : Tok) (tk : Nat), (∀ b o, s.heap.get? b = some o → h'.get? b = some o) → EP X pins σ Q (.str (listText (PyData.shownAll ds)) u) { s with heap := h', toks := tk } := fun h' u tk k => by
      refine ⟨.str _, H, I.kept (t' := tk) k, ⟨u, rfl⟩, ?_⟩
      simpa only [PyData.shown] using q
    cases D with
    | @lst _ xs _ hs ha =>
      obtain ⟨its, rv, ⟨o, n, ho, hc, _, hd⟩, _⟩ := I.list hs
      obtain ⟨bs, hb, hk⟩ := Dq.reprAll I ds _ its ha rv (by simpa [PyData.showable] using ok) fun t ht => Nat.le_trans (listText_mem_le ht) zt
      have off := not_mem_of_deeper R (show PyData.depthAll ds < (PyData.list ds).depth by simp only [PyData.depth]; omega) hb
      have hdep' : PyData.depthAll ds + 1 ≤ 60 := by simp only [PyData.depth] at hdep; omega
      refine call_repr_slot (by omega) ⟨o, ho, hc⟩ F.slot_list_repr.toG ?_
      cases its with
      | nil =>
        have e : PyData.shownAll ds = [] := List.eq_nil_of_length_eq_zero (by simpa using hk.length_eq)
        have z := fin s.heap s.toks (s.toks + 1) (fun _ _ e => e)
        rw [e, listText_nil] at z
        exact call_list_repr_empty ⟨o, ho, hc⟩ ho hd ⟨_, _, rfl, z⟩
      | cons x l =>
        exact call_list_reprK ho hc hd off (by simpa using hk.length_eq) (fun i y e => hk.item i y (by simpa using e)) hg (fun b _ => Clear.nil b) (by show X.A.units + 1 + _ < cLine; omega) (fun _ _ e => e) (fun h' u tk k => ⟨_, _, rfl, fin h' u tk k⟩) zt
end
end L2
set_option Elab.async false
set_option linter.all false
set_option maxRecDepth 100000
set_option maxHeartbeats 4000000
namespace Toy
open PySem L2
def top (i : Nat) : Stmt := PySem.Challenge.pw_holekinds_k21_whole_spots_by_own_walk.main.body.getD i (.Pass ⟨0, 0, 0, 0⟩)
abbrev sWell : Stmt := top 61
abbrev sDraw : Stmt := top 62
abbrev sPick : Stmt := top 63
abbrev sSame : Stmt := top 64
/-! ### the well: a list of three ints at wl -/
def WellAt (H : Hp) (wl : Addr) : Prop := ∃ a b c : Int, H wl = some (.lst [.int a, .int b, .int c])
/-- all but the well stays -/
def But (wl : Addr) (H H' : Hp) : Prop := ∀ b o, b ≠ wl → H b = some o → H' b = some o
theorem But.refl {wl : Addr} (H : Hp) : But wl H H := fun _ _ _ h => h
theorem But.trans {wl : Addr} {H H1 H2 : Hp} (a : But wl H H1) (b : But wl H1 H2) : But wl H H2 := fun c o n h => b c o n (a c o n h)
theorem But.of {wl : Addr} {H H' : Hp} (a : Same H H') : But wl H H' := fun c o _ h => a c o h
theorem But.well {wl : Addr} {H : Hp} {o : HO} : But wl H (upd H wl o) := fun b u n h => by rw [upd_ne n]; exact h
theorem same_new {H : Hp} {p : Addr} (h : H p = none) (o : HO) : Same H (upd H p o) := fun b u q => by rw [upd_ne (ne_of_none q h)]; exact q
theorem But.new {wl p : Addr} {H : Hp} (h : H p = none) (o : HO) : But wl H (upd H p o) := .of (same_new h o)
/-! ### promises -/
def spDraw : Sp := fun vs H Q _ => ∃ (wl : Addr) (m : Int), vs = [.ref wl, .int m] ∧ 1 ≤ m ∧ m < 1073741824 ∧ WellAt H wl ∧
  ∀ (f : Int) (H' : Hp), 0 ≤ f → f < m → WellAt H' wl → But wl H H' → Q (.int f) H'
def spPick (K : PySem.W.Frag) : Sp := fun vs H Q _ => ∃ (wl t : Addr) (xs : List V), vs = [.ref wl, .ref t] ∧ WellAt H wl ∧ SqT K H t xs ∧ 1 ≤ xs.length ∧ xs.length < 1073741824 ∧
  ∀ (v : V) (H' : Hp), v ∈ xs → WellAt H' wl → But wl H H' → Q v H'
def spWell (K : PySem.W.Frag) : Sp := fun vs H Q _ => ∃ (a : Addr) (ns : List Int) (t : Int), vs = [.ref a, .int t] ∧ SqL K H a (ns.map V.int) ∧ ns.length ≤ 63 ∧ 0 ≤ t ∧ t ≤ 1000 ∧
  ∀ (p : Addr) (H' : Hp), Same H H' → H p = none → WellAt H' p → Q (.ref p) H'
def spSame (K : PySem.W.Frag) : Sp := fun vs H Q _ => ∃ (a b : Addr) (ds : List PyData), vs = [.ref a, .ref b] ∧ Dq K H (.ref a) (.list ds) ∧ Dq K H (.ref b) (.list ds) ∧ (PyData.list ds).showable = true ∧ (PyData.list ds).shown.length ≤ sizeLine ∧ (PyData.list ds).depth ≤ 60 ∧ Q (.bl true) H
/-- the built-in names that the text uses -/
structure Nm (mg : Str → Option Value) : Prop where
  int : mg "int" = none
  len : mg "len" = none
  abs : mg "abs" = none
  divmod : mg "divmod" = none
  repr : mg "repr" = none
section
variable {P : Program} {w : World} {K : PySem.W.Frag} {mg : Str → Option Value} {base : Heap}
theorem scD : FnScope ["spring", "top", "digit", "seed"] ["spring", "top"] (defScope sDraw) := ⟨rfl, rfl, rfl, by decide +kernel, rfl, by decide +kernel, by decide +kernel⟩
theorem ok_draw {f : Addr} {fd : FuncData} (F : Fun K "_law_draw" "_law_draw" sDraw f fd) (T : Nm mg) : FnOk P w K mg base CX0 1 f fd ["spring", "top"] spDraw := by
  refine F.ok scD (fun vs H Q E h => ?_) (fun cdv A outer s H vs Q E hr h => ?_)
  · obtain ⟨wl, m, rfl, _⟩ := h
    rfl
  obtain ⟨wl, m, rfl, h1, h2, ⟨a, b, c, hw⟩, q⟩ := h
  have ix : ∀ {X : Cx} (j : Int) {p1 p2 p3 : Pos} {k : Nat}, X.N[0]? = some (Str.ofString "spring") → Vis X.env.scope "spring" → PE X (.Subscript (.Name "spring" p1) (.Constant (.int j) k p2) p3) (tOp (rIxL X.K) (tVar 0) (tC (.int j))) := fun j _ _ _ _ hN hv => pe_ix ix_list (pe_var hN hv) pe_int (fun _ _ => rfl)
  refine ⟨_, pss_cons (ps_if (pt_cmpR op_gt (ix 0 rfl (.inl rfl)) pe_int (nomark _))
      (pss_cons (ps_asg (pe_callB call_divmod rfl T.divmod (by decide +kernel) (pa_cons (ix 0 rfl (.inl rfl)) (pa_cons (pv 1) pa_nil))) (pg_tup rfl (pgs_cons (pg_sub (pv 0) pe_int set_list) (pgs_cons (pg_name (i := 2) scD.nd rfl (.inl rfl)) pgs_nil))))
      (pss_one (ps_ret (pv 2)))) pss_nil)
    (pss_cons (ps_asg (pe_op op_add (ix 2 rfl (.inl rfl)) pe_int) (pg_sub (pv 0) pe_int set_list))
    (pss_cons (ps_set (i := 3) scD.nd rfl (.inl rfl) (pe_op op_mod (pe_callTy call_int1 rfl T.int (by decide +kernel) (pa_cons (pe_op op_add (ix 1 rfl (.inl rfl)) (pe_op op_mul pe_int (ix 2 rfl (.inl rfl)))) pa_nil)) pe_int))
    (pss_cons (ps_asg (pe_op op_mod (pe_callTy call_int1 rfl T.int (by decide +kernel) (pa_cons (pe_op op_add (pe_op op_mul (pv 3) (pe_op op_add (pe_op op_mod (pe_callTy call_int1 rfl T.int (by decide +kernel) (pa_cons (pv 3) pa_nil)) pe_int) pe_int)) (pe_op op_mul pe_int (ix 2 rfl (.inl rfl)))) pa_nil)) pe_int) (pg_sub (pv 0) pe_int set_list))
    (pss_one (ps_ret (pe_op op_mod (pe_callTy call_int1 rfl T.int (by decide +kernel) (pa_cons (pe_op op_fdiv (ix 1 rfl (.inl rfl)) pe_int) pa_nil)) (pv 1))))))), ?_⟩
  refine ⟨_, rfl, wl, _, 0, _, rfl, rfl, SqL.of hw, rfl, _, _, rfl, rfl, _, rfl, ?_⟩
  refine ite2 (fun hc => ?_) (fun hc => ?_)
  · refine ⟨_, rfl, wl, _, 0, _, rfl, rfl, SqL.of hw, rfl, _, rfl, _, _, rfl, ⟨by omega, h2⟩, fun p hp => ?_⟩
    have hw' : upd H p (.tup [.int (a / m), .int (a % m)]) wl = some (.lst [.int a, .int b, .int c]) := by rw [upd_ne (ne_of_none hw hp)]; exact hw
    refine ⟨_, _, rfl, SqT.of upd_same, rfl, _, _, rfl, _, rfl, wl, _, 0, 0, rfl, rfl, hw', rfl, _, _, rfl, rfl, ?_⟩
    refine ⟨_, rfl, q (a % m) _ (Int.emod_nonneg _ (by omega)) (Int.emod_lt_of_pos _ (by omega)) ⟨_, _, _, upd_same⟩ ?_⟩
    exact (But.new hp _).trans But.well
  · have r31 : ∀ x : Int, 0 ≤ x % 2147483549 ∧ x % 2147483549 < 2147483549 := fun x => ⟨Int.emod_nonneg _ (by omega), Int.emod_lt_of_pos _ (by omega)⟩
    have hp31 : (0 : Int) < 2147483549 := by decide
    refine ⟨_, rfl, wl, _, 2, _, rfl, rfl, SqL.of hw, rfl, _, _, rfl, rfl, _, rfl, wl, _, 2, 2, rfl, rfl, hw, rfl, ?_⟩
    have h3 : upd H wl (.lst ([V.int a, V.int b, V.int c].set 2 (V.int (c + 1)))) wl = some (.lst [.int a, .int b, .int (c + 1)]) := upd_same
    refine ⟨_, rfl, wl, _, 1, _, rfl, rfl, SqL.of h3, rfl, _, rfl, wl, _, 2, _, rfl, rfl, SqL.of h3, rfl, _, _, rfl, rfl, .inl ⟨by decide, by decide⟩, _, _, rfl, rfl, .inl ⟨_, rfl, _, _, rfl, rfl, hp31, ?_⟩⟩
    obtain ⟨s1, s2⟩ := r31 (b + 40013 * (c + 1))
    refine ⟨_, rfl, _, rfl, .inl ⟨_, rfl, _, _, rfl, rfl, (by show (0 : Int) < 5003; decide), _, _, rfl, rfl, _, _, rfl, rfl, .inl ⟨by omega, by omega⟩, _, rfl, wl, _, 2, _, rfl, rfl, SqL.of h3, rfl, _, _, rfl, rfl, .inl ⟨by decide, by decide⟩, _, _, rfl, rfl, .inl ⟨_, rfl, _, _, rfl, rfl, hp31, _, rfl, wl, _, 1, 1, rfl, rfl, h3, rfl, ?_⟩⟩⟩
    refine ⟨_, rfl, wl, _, 1, _, rfl, rfl, SqL.of upd_same, rfl, _, _, rfl, rfl, ⟨by decide, by decide⟩, .inl ⟨_, rfl, _, rfl, _, _, rfl, rfl, by show (0 : Int) < m; omega, ?_⟩⟩
    exact q _ _ (Int.emod_nonneg _ (by omega)) (Int.emod_lt_of_pos _ (by omega)) ⟨_, _, _, upd_same⟩ (But.well.trans But.well)
theorem scP : FnScope ["spring", "some"] ["spring", "some"] (defScope sPick) := ⟨rfl, rfl, rfl, by decide +kernel, rfl, by decide +kernel, by decide +kernel⟩
theorem ok_pick {f g : Addr} {fd gd : FuncData} (F : Fun K "_law_pick" "_law_pick" sPick f fd) (T : Nm mg) (G : FnOk P w K mg base CX0 1 g gd ["spring", "top"] spDraw) (bG : Binds K gd ["spring", "top"] []) (kG : PySem.W.keepIn K (.ref g) = true) (mG : mg "_law_draw" = some (.ref g)) :
    FnOk P w K mg base CX0 2 f fd ["spring", "some"] (spPick K) := by
  refine F.ok scP (fun vs H Q E h => ?_) (fun cdv A outer s H vs Q E hr h => ?_)
  · obtain ⟨wl, t, xs, rfl, _⟩ := h
    rfl
  obtain ⟨wl, t, xs, rfl, hw, ht, h1, h2, q⟩ := h
  refine ⟨_, pss_one (ps_ret (pe_ix ix_tup (pv 1) (pe_call G hr rfl mG kG bG .nil pass0 (pa_cons (pv 0) (pa_cons (pe_callB call_len_seq rfl T.len PySem.boot_len (pa_cons (pv 1) pa_nil)) pa_nil))) (fun _ _ => rfl))), ?_⟩
  refine ⟨_, rfl, _, rfl, _, rfl, t, _, rfl, .inr ht, wl, _, rfl, by omega, by omega, hw, fun i H' hi0 hi1 hw' hb => ?_⟩
  obtain ⟨a, b, c, hw0⟩ := hw
  have ht' : SqT K H' t xs := by
    rcases ht with (z | ⟨o, z⟩) | z
    · exact .inl (.inl (hb t _ (ne_of z hw0 (by intro y; cases y)) z))
    · exact .inl (.inr ⟨o, hb t _ (ne_of z hw0 (by intro y; cases y)) z⟩)
    · exact .inr z
  have hlt : i.toNat < xs.length := by omega
  have e : i = ((i.toNat : Nat) : Int) := by omega
  refine ⟨t, xs, i, xs[i.toNat], rfl, rfl, ht', ?_, q _ H' (List.getElem_mem hlt) hw' hb⟩
  have z := atI_nat (xs := xs) (j := i.toNat) (v := xs[i.toNat]) (List.getElem?_eq_getElem hlt)
  rw [← e] at z
  exact z
theorem scS : FnScope ["gave", "due"] ["gave", "due"] (defScope sSame) := ⟨rfl, rfl, rfl, by decide +kernel, rfl, by decide +kernel, by decide +kernel⟩
theorem ok_same {f : Addr} {fd : FuncData} (F : Fun K "_law_is" "_law_is" sSame f fd) (T : Nm mg) : FnZ (RoomG 1) P w K mg base f fd ["gave", "due"] (spSame K) := by
  refine F.okZ true scS (fun A z => z.depth) (fun _ A z => z.room.hd) (fun vs H Q E h => ?_) (fun cdv A outer s H vs Q hz h => ?_)
  · obtain ⟨a, b, ds, rfl, _⟩ := h
    rfl
  obtain ⟨a, b, ds, rfl, ha, hb, ok, sz, dp, q⟩ := h
  have hz' : ∀ env, RoomG 0 (A.deeper env) := fun env => hz.deeper env
  have hu : ∀ env, (A.deeper env).units + 64 < cLine := fun env => by
    have y := (hz' env).room.un
    omega
  refine ⟨_, pss_one (ps_ret (pe_cmpR op_eq (pe_callB (call_repL (hu _) (hz' _).gs) rfl T.repr (by decide +kernel) (pa_cons (pv 0) pa_nil)) (pe_callB (call_repL (hu _) (hz' _).gs) rfl T.repr (by decide +kernel) (pa_cons (pv 1) pa_nil)) (nomark _))), ?_⟩
  refine ⟨_, rfl, a, ds, rfl, ha, ok, sz, dp, _, rfl, b, ds, rfl, hb, ok, sz, dp, rfl, ?_⟩
  rw [decide_eq_true rfl]
  exact q
theorem cut_int {ns : List Int} {lo hi : Option Int} {i : Nat} {y : V} (h : (cutV (ns.map V.int) lo hi)[i]? = some y) : ∃ z, y = V.int z := by
  have m : y ∈ cutV (ns.map V.int) lo hi := List.mem_of_getElem? h
  unfold cutV at m
  have m2 := List.mem_of_mem_drop (List.mem_of_mem_take m)
  obtain ⟨z, _, e⟩ := List.mem_map.mp m2
  exact ⟨z, e.symm⟩
theorem pe_intc {X : Cx} {e : Expr} {te : TE} {p pos : Pos} (hm : X.mg "int" = none) (he : PE X e te) (hg : Gl X "int" := by rfl) (hs : starEach [e] X.env = (false, eval e X.env) :: starEach [] X.env := by rfl) :
    PE X (.Call (.Name "int" p) [e] [] pos) (tCB (fun xs H Q => (∃ i, xs = [.int i] ∧ Q (.int i) H) ∨ ∃ k, xs = [.bl k] ∧ Q (.int (if k then 1 else 0)) H) (tCons te tNil)) := pe_callTy call_int1 hg hm (by decide +kernel) (pa_cons he pa_nil (hs := hs)) (he := hs)
theorem scW : FnScope ["script", "lap", "own", "seed", "cell"] ["script", "lap"] (defScope sWell) := ⟨rfl, rfl, rfl, by decide +kernel, rfl, by decide +kernel, by decide +kernel⟩
theorem ok_well {f : Addr} {fd : FuncData} (F : Fun K "_law_spring" "_law_spring" sWell f fd) (T : Nm mg) : FnOk P w K mg base CX0 1 f fd ["script", "lap"] (spWell K) := by
  refine F.ok scW (fun vs H Q E h => ?_) (fun cdv A outer s H vs Q E hr h => ?_)
  · obtain ⟨a, ns, t, rfl, _⟩ := h
    rfl
  obtain ⟨a, ns, t, rfl, hS, h63, ht0, ht1, q⟩ := h
  refine ⟨_, pss_cons (ps_par (i := 2) (j := 3) rfl scW.nd rfl rfl (by decide) rfl rfl (pa_cons (pe_ifExp (pt_cmpR op_lt (pv 1) (pe_callB call_len_seq rfl T.len PySem.boot_len (pa_cons (pv 0) pa_nil)) (nomark _)) (pe_intc T.int (pe_ix ix_list (pv 0) (pv 1) (fun _ _ => rfl))) pe_int) (pa_cons (pe_op op_add pe_int (pe_op op_mul pe_int (pv 1))) pa_nil)) (by rfl))
    (pss_cons (ps_for PassesOwn.never rfl (pi_list (pe_slice sl_list (pv 0) po_none (po_some pe_int))) (pg_name (i := 4) scW.nd rfl (.inl rfl))
      (pss_one (ps_set (i := 3) scW.nd rfl (.inl rfl) (pe_op op_mod (pe_intc T.int (pe_op op_add (pe_op op_add (pe_op op_mul (pv 3) pe_int) (pe_op op_mod (pe_intc T.int (pv 4)) pe_int)) pe_int)) pe_int))))
    (pss_cons (ps_set (i := 3) scW.nd rfl (.inl rfl) (pe_op op_mod (pe_intc T.int (pe_op op_add (pe_op op_add (pe_op op_mul (pv 3) pe_int) (pe_op op_mul (pe_op op_mod (pe_intc T.int (pv 2)) pe_int) pe_int)) pe_int)) pe_int))
    (pss_one (ps_ret (pe_lst (pa_cons (pe_ifExp (PW.pt (pw_or (pt_cmpR op_lt (pv 2) pe_int (nomark _)) (pw_or1 (pt_cmpR op_ge (pv 2) (pe_op op_pow pe_int pe_int) (nomark _))))) (pe_callB call_abs rfl T.abs (by decide +kernel) (pa_cons (pv 2) pa_nil)) pe_int) (pa_cons (pv 3) (pa_cons pe_int pa_nil)))))))), ?_⟩
  have hp1 : (0 : Int) < 2147483423 := by decide
  have hp2 : (0 : Int) < 2147483549 := by decide
  have sz : 3 ≤ sizeLine := by decide
  have sz2 : 2 ≤ sizeLine := by decide
  refine ⟨_, rfl, _, rfl, a, _, rfl, .inl hS, _, _, rfl, rfl, _, rfl, ?_⟩
  refine ite2 (fun hc => ?A) (fun hc => ?B)
  case' A =>
    have hc' : t < (((ns.map V.int).length : Nat) : Int) := of_decide_eq_true hc
    rw [List.length_map] at hc'
    have hlt : t.toNat < ns.length := by omega
    have e : t = ((t.toNat : Nat) : Int) := by omega
    have z := atI_nat (xs := ns.map V.int) (j := t.toNat) (v := .int ns[t.toNat]) (by rw [List.getElem?_map, List.getElem?_eq_getElem hlt] <;> rfl)
    rw [← e] at z
    refine ⟨_, rfl, _, rfl, a, _, _, _, rfl, rfl, hS, z, .inl ⟨_, rfl, ?_⟩⟩
    generalize ns[t.toNat] = ow
    have tag : ow = ow := rfl
  all_goals
    refine ⟨_, rfl, _, _, rfl, rfl, .inl ⟨by decide, by decide⟩, _, _, rfl, rfl, _, _, rfl, ?_⟩
    refine ⟨_, rfl, _, rfl, a, _, rfl, hS, fun p hp => ?_⟩
    have hp' : upd H p (.lst (cutV (ns.map V.int) none (some 63))) p = some (.lst (cutV (ns.map V.int) none (some 63))) := upd_same
    have sm := same_new hp (.lst (cutV (ns.map V.int) none (some 63)))
    have hS' := sm.seq hS
    generalize upd H p (.lst (cutV (ns.map V.int) none (some 63))) = H1 at hp' sm hS' ⊢
    refine ⟨p, rfl, ⟨_, SqL.of hp'⟩, for_list (K := K) (a := p) (xs := cutV (ns.map V.int) none (some 63)) (fun i σ H2 => H2 = H1 ∧ ∃ (o m : Int) (c : Option V), σ = [some (.ref a), some (.int t), some (.int o), some (.int m), c])
      ⟨rfl, _, _, _, rfl⟩ (fun i σ H2 _ z => by obtain ⟨rfl, _⟩ := z; exact SqL.of hp') ?_ ?_⟩
    · rintro i y σ H2 hi ⟨rfl, o, m, c, rfl⟩
      obtain ⟨z, rfl⟩ := cut_int hi
      refine ⟨_, rfl, _, _, rfl, rfl, .inr ⟨by decide, by decide⟩, _, rfl, .inl ⟨_, rfl, _, _, rfl, rfl, hp1, _, _, rfl, rfl, _, _, rfl, rfl, .inl ⟨_, rfl, _, _, rfl, rfl, hp2, ?_⟩⟩⟩
      exact ⟨rfl, _, _, _, rfl⟩
    · rintro σ H2 ⟨rfl, o, m, c, rfl⟩
      have fin : ∀ (x y : Int) (p' : Addr), H2 p' = none → Q (.ref p') (upd H2 p' (.lst [.int x, .int y, .int 0])) := fun x y p' hn => by
        have s3 := sm.trans (same_new hn (.lst [.int x, .int y, .int 0]))
        exact q p' _ s3 (sm.free hn) ⟨_, _, _, upd_same⟩
      refine ⟨_, rfl, _, _, rfl, rfl, .inr ⟨by decide, by decide⟩, _, rfl, .inl ⟨_, rfl, _, _, rfl, rfl, hp1, _, _, rfl, rfl, .inr ⟨by decide, by decide⟩, _, _, rfl, rfl, _, _, rfl, rfl, .inl ⟨_, rfl, _, _, rfl, rfl, hp2, ?_⟩⟩⟩
      refine ⟨_, rfl, _, _, rfl, rfl, _, rfl, ?_⟩
      refine ite2 (fun _ => ?_) (fun _ => ?_)
      · exact iteT ⟨_, rfl, _, rfl, _, rfl, sz, fun p' hn => fin _ _ p' hn⟩
      · refine ⟨_, rfl, _, _, rfl, rfl, ⟨by decide, by decide, by decide⟩, _, _, rfl, rfl, _, rfl, ?_⟩
        refine ite2 (fun _ => ?_) (fun _ => ?_)
        · exact ⟨_, rfl, _, rfl, _, rfl, sz, fun p' hn => fin _ _ p' hn⟩
        · exact ⟨_, rfl, sz, fun p' hn => fin _ _ p' hn⟩
end
end Toy
set_option Elab.async false
set_option linter.all false
set_option maxRecDepth 100000
set_option maxHeartbeats 4000000
namespace L2
open PySem PySem.Spec PyProof.Rows
theorem PE.imp {X : Cx} {e : Expr} {t t' : TE} (h : PE X e t) (i : ∀ σ H Q, t' σ H Q → t σ H Q) : PE X e t' := ⟨fun pins s σ H Q I q => h.run pins s σ H Q I (i σ H Q q)⟩
theorem PA.imp {X : Cx} {es : List Expr} {t t' : TA} (h : PA X es t) (i : ∀ σ H Q, t' σ H Q → t σ H Q) : PA X es t' := ⟨fun pos pins s σ H Q I q => h.run pos pins s σ H Q I (i σ H Q q)⟩
theorem Same.seqT {K : PySem.W.Frag} {H H' : Hp} {a : Addr} {xs : List V} (e : Same H H') (h : SqT K H a xs) : SqT K H' a xs := by
  rcases h with (h | ⟨o, h⟩) | h
  · exact .inl (.inl (e _ _ h))
  · exact .inl (.inr ⟨o, e _ _ h⟩)
  · exact .inr h
theorem Same.seqP {K : PySem.W.Frag} {H H' : Hp} {a : Addr} {xs : List V} (e : Same H H') (h : SqP K H a xs) : SqP K H' a xs := by
  rcases h with ⟨o, h, d⟩ | h
  · exact .inl ⟨o, e _ _ h, d⟩
  · exact .inr h
mutual
theorem Dq.mono {K : PySem.W.Frag} {H H' : Hp} (e : Same H H') : ∀ (d : PyData) (v : V), Dq K H v d → Dq K H' v d
  | .none, _, .non => .non
  | .bool _, _, .bl b => .bl b
  | .int _, _, .int i => .int i
  | .str _, _, .str x => .str x
  | .list ds, _, .lst h a => .lst (e.seq h) (DqAll.mono e ds _ a)
  | .tuple ds, _, .tup h a => .tup (e.seqP h) (DqAll.mono e ds _ a)
  | .dict [], _, .dic h => .dic (e _ _ h)
theorem DqAll.mono {K : PySem.W.Frag} {H H' : Hp} (e : Same H H') : ∀ (ds : List PyData) (vs : List V), DqAll K H vs ds → DqAll K H' vs ds
  | [], _, .nil => .nil
  | d :: ds, _, .cons h r => .cons (Dq.mono e d _ h) (DqAll.mono e ds _ r)
end
theorem DqAll.append {K : PySem.W.Frag} {H : Hp} : ∀ {vs ws : List V} {ds es : List PyData}, DqAll K H vs ds → DqAll K H ws es → DqAll K H (vs ++ ws) (ds ++ es)
  | [], _, [], _, .nil, s => s
  | _ :: _, _, _ :: _, _, .cons r t, s => .cons r (DqAll.append t s)
theorem DqAll.get {K : PySem.W.Frag} {H : Hp} : ∀ {vs : List V} {ds : List PyData} {v : V}, DqAll K H vs ds → v ∈ vs → ∃ d, d ∈ ds ∧ Dq K H v d
  | v :: vs, d :: ds, x, .cons r t, m => by
    rcases List.mem_cons.mp m with rfl | m
    · exact ⟨d, List.mem_cons_self, r⟩
    · obtain ⟨d', h1, h2⟩ := DqAll.get t m
      exact ⟨d', List.mem_cons_of_mem _ h1, h2⟩
theorem DqAll.len {K : PySem.W.Frag} {H : Hp} : ∀ {vs : List V} {ds : List PyData}, DqAll K H vs ds → vs.length = ds.length
  | [], [], .nil => rfl
  | _ :: _, _ :: _, .cons _ t => congrArg Nat.succ (DqAll.len t)
/-- what is new in H' -/
def newer (H H' : Hp) : Hp := fun b => match H b with | none => H' b | some _ => none
theorem newer_of {H H' : Hp} {b : Addr} (h : H b = none) : newer H H' b = H' b := by unfold newer; rw [h]
theorem newer_same {H H1 H2 : Hp} (e : Same H1 H2) : Same (newer H H1) (newer H H2) := fun b o h => by
  unfold newer at h ⊢
  cases q : H b with
  | none => rw [q] at h; exact e _ _ h
  | some u => rw [q] at h; cases h
theorem newer_ahead {H H1 H2 : Hp} (e : Same H H1) : Same (newer H1 H2) (newer H H2) := fun b o h => by
  unfold newer at h ⊢
  cases q : H1 b with
  | none => rw [q] at h; rw [e.free q]; exact h
  | some u => rw [q] at h; cases h
theorem newer_all {H H' : Hp} : Same (newer H H') H' := fun b o h => by
  unfold newer at h
  cases q : H b with
  | none => rw [q] at h; exact h
  | some u => rw [q] at h; cases h
/-! ### written data -/
mutual
inductive ED : Expr → PyData → Prop
  | non {j p} : ED (.Constant .none j p) .none
  | bl {b j p} : ED (.Constant (.bool b) j p) (.bool b)
  | int {i j p} : ED (.Constant (.int i) j p) (.int i)
  | str {x j p} : ED (.Constant (.str x) j p) (.str x)
  | neg {i j p p'} : ED (.UnaryOp .USub (.Constant (.int i) j p) p') (.int (-i))
  | pow {i j k k' p p' p''} : CPow i j → ED (.BinOp (.Constant (.int i) k p) .Pow (.Constant (.int j) k' p') p'') (.int (i ^ j.toNat))
  | tup {es ds k p} : EDs es ds → ds.length ≤ 1000 → ED (.Tuple es k p) (.tuple ds)
  | lst {es ds p} : EDs es ds → ds.length ≤ 1000 → ED (.List es p) (.list ds)
  | dic {p} : ED (.Dict [] [] p) (.dict [])
inductive EDs : List Expr → List PyData → Prop
  | nil : EDs [] []
  | cons {e es d ds} : ED e d → EDs es ds → EDs (e :: es) (d :: ds)
end
theorem ED.star {e : Expr} {d : PyData} (h : ED e d) (es : List Expr) (env : Env) : starEach (e :: es) env = (false, eval e env) :: starEach es env := by
  cases h <;> rfl
def tData (K : PySem.W.Frag) (d : PyData) : TE := fun σ H Q => ∀ v H', Same H H' → Dq K (newer H H') v d → Q v H'
def tDatas (K : PySem.W.Frag) (ds : List PyData) : TA := fun σ H Q => ∀ vs H', Same H H' → DqAll K (newer H H') vs ds → Q vs H'
theorem sz1000 {n : Nat} (h : n ≤ 1000) : n ≤ sizeLine := Nat.le_of_lt (small1000 h)
mutual
theorem ED.pe {X : Cx} : ∀ {e : Expr} {d : PyData}, ED e d → PE X e (tData X.K d)
  | _, _, .non => pe_non.imp fun σ H Q q => q _ H (Same.refl H) .non
  | _, _, .bl => pe_bl.imp fun σ H Q q => q _ H (Same.refl H) (.bl _)
  | _, _, .int => pe_int.imp fun σ H Q q => q _ H (Same.refl H) (.int _)
  | _, _, .str => pe_str.imp fun σ H Q q => q _ H (Same.refl H) (.str _)
  | _, _, .neg => (pe_un un_neg pe_int).imp fun σ H Q q => ⟨_, rfl, q _ H (Same.refl H) (.int _)⟩
  | _, _, .pow c => (pe_op op_pow pe_int pe_int).imp fun σ H Q q => ⟨_, _, rfl, rfl, c, q _ H (Same.refl H) (.int _)⟩
  | _, _, .dic => pe_dnewK.imp fun σ H Q q => fun p hp => q _ _ (fun b o h => by rw [upd_ne (ne_of_none h hp)]; exact h) (.dic (by rw [newer_of hp]; exact upd_same))
  | _, _, .tup h z => (pe_tupN (EDs.pa h)).imp fun σ H Q q => fun vs H1 s1 D => ⟨by rw [D.len]; exact sz1000 z, fun p ob hp hob => by
      have s2 : Same H1 (upd H1 p (.frz ob (.tup vs))) := fun b o h => by rw [upd_ne (ne_of_none h hp)]; exact h
      refine q _ _ (s1.trans s2) (.tup (SqP.of (by rw [newer_of (s1.free hp)]; exact upd_same) hob) (DqAll.mono (newer_same s2) _ _ D))⟩
  | _, _, .lst h z => (pe_lst (EDs.pa h)).imp fun σ H Q q => fun vs H1 s1 D => ⟨by rw [D.len]; exact sz1000 z, fun p hp => by
      have s2 : Same H1 (upd H1 p (.lst vs)) := fun b o h => by rw [upd_ne (ne_of_none h hp)]; exact h
      refine q _ _ (s1.trans s2) (.lst (SqL.of (by rw [newer_of (s1.free hp)]; exact upd_same)) (DqAll.mono (newer_same s2) _ _ D))⟩
theorem EDs.pa {X : Cx} : ∀ {es : List Expr} {ds : List PyData}, EDs es ds → PA X es (tDatas X.K ds)
  | _, _, .nil => pa_nil.imp fun σ H Q q => q [] H (Same.refl H) .nil
  | _, _, .cons h r => (pa_cons (ED.pe h) (EDs.pa r) (hs := h.star _ _)).imp fun σ H Q q => fun v H1 s1 D => fun vs H2 s2 Ds => q _ _ (s1.trans s2) (.cons (Dq.mono (newer_same s2) _ _ D) (DqAll.mono (newer_ahead s1) _ _ Ds))
end
end L2
set_option Elab.async false
set_option linter.all false
set_option maxRecDepth 100000
set_option maxHeartbeats 4000000
namespace Toy
open PySem L2
def asgVal : Stmt → Expr
  | .Assign _ e _ => e
  | _ => .Constant .none 0 ⟨0, 0, 0, 0⟩
abbrev ds (x : String) : PyData := .str (Str.ofString x)
abbrev dt (l : List PyData) : PyData := .tuple l
abbrev di (i : Int) : PyData := .int i
def dSome : List PyData := [.none, .bool true, .bool false, di 0, di 1, di (-1), di 12, di (10 ^ 30), ds "", ds "thing", ds "Row", ds "Row'", ds "Row'Tree", ds "row", ds "left", dt [], dt [di 0]]
def dMore : List PyData := [dt [ds "thing"], dt [ds "thing", dt []], dt [ds "none"], dt [ds "name", ds "Row"], dt [ds "name", ds "row"], dt [ds "unit", di 1], dt [ds "pair", dt [ds "thing"]]]
def dEnds : List PyData := [dt [ds "pair", di 5, di 6], dt [ds "either", dt [ds "unit"], dt [ds "thing"]], dt [ds "left", dt []], dt [ds "right", .bool true], .list [], .list [ds "thing"], .dict [], dt [dt []]]
def dLast : List PyData := [dt [di 1, di 2], dt [di 1, .bool true], dt [ds "next"], dt [ds "put", di 3], dt [dt [ds "Row", dt [ds "unit"]]], dt [dt [ds "unit"]], dt [.none], dt [ds "left", di 1, di 2]]
def dOdd : List PyData := dSome ++ dMore ++ dEnds ++ dLast
theorem But.free {wl b : Addr} {H H' : Hp} (e : But wl H H') (w : WellAt H' wl) (h : H' b = none) : H b = none := by
  cases q : H b with
  | none => rfl
  | some o =>
    by_cases n : b = wl
    · obtain ⟨_, _, _, z⟩ := w
      rw [n, z] at h
      cases h
    · rw [e b o n q] at h
      cases h
theorem newerB {wl : Addr} {H H1 H2 : Hp} (w : WellAt H wl) (e : But wl H1 H2) : Same (newer H H1) (newer H H2) := fun b o h => by
  unfold newer at h ⊢
  cases q : H b with
  | none =>
    rw [q] at h
    exact e b o (fun n => by obtain ⟨_, _, _, z⟩ := w; rw [n, z] at q; cases q) h
  | some u => rw [q] at h; cases h
theorem aheadB {wl : Addr} {H H1 H2 : Hp} (e : But wl H H1) (w : WellAt H1 wl) : Same (newer H1 H2) (newer H H2) := fun b o h => by
  unfold newer at h ⊢
  cases q : H1 b with
  | none => rw [q] at h; rw [e.free w q]; exact h
  | some u => rw [q] at h; cases h
def spOdd (K : PySem.W.Frag) : Sp := fun vs H Q _ => ∃ (wl : Addr), vs = [.ref wl] ∧ WellAt H wl ∧ ∀ (v : V) (H' : Hp) (d : PyData), d ∈ dOdd → Dq K (newer H H') v d → WellAt H' wl → But wl H H' → Q v H'
section
variable {P : Program} {w : World} {K : PySem.W.Frag} {mg : Str → Option Value} {base : Heap}
theorem dq_tup {H : Hp} {v : V} {l : List PyData} (h : Dq K H v (.tuple l)) : ∃ a xs, v = .ref a ∧ SqT K H a xs ∧ DqAll K H xs l := by
  cases h with
  | tup h a => exact ⟨_, _, rfl, h.seqT, a⟩
end
end Toy
set_option Elab.async false
set_option linter.all false
set_option maxRecDepth 100000
set_option maxHeartbeats 4000000
namespace L2
open PySem PySem.Spec PyProof.Rows
/-! ### the law's own end, by such a promise -/
theorem law_callZ {Z : Around → Prop} {P : Program} {w : World} {K : PySem.W.Frag} {mg mb : Str → Option Value} {fa a : Addr} {fd : FuncData} {x : Str} {sp : Sp} {s₁ : Shared} {vs : List Value} {ns : List Int}
    (KX : K.In s₁.heap) (hns : s₁.heap.Ns mainGlobals mg) (hb : s₁.heap.Ns builtinsNs mb) (hbb : ∀ x : Str, x ≠ "__name__" → mb x = bootBuiltins x) (hlim : s₁.heap.NoLimit) (hg : s₁.gens = #[])
    (ha : s₁.heap.get? a = some { cls := .type "list", data := .seq vs.toArray }) (hi : IntsAre vs ns) (hl : ns.length ≤ sizeLine) (hz : Z callerA)
    (F : ∀ base : Heap, K.In base → base.Ns mainGlobals mg → FnZ Z P w K mg base fa fd [x] sp) (hbind : ∀ (s : Shared) (u : Value), BindsTo s fd ⟨[u], []⟩ [(x, u)])
    (hsp : ∀ H : Hp, Only H → SqL K H a (ns.map V.int) → sp [.ref a] H (fun v _ => v = .bl true) E0) :
    codeAny (model P w) callerA (.call (.ref fa) ⟨[.ref a], []⟩) (fun r s' => r = .ok (.ret (.bool true)) ∧ OldK s₁.heap s'.heap ∧ s'.os = s₁.os ∧ AllBare s'.gens) s₁ := by
  have rv := vals_ints hi
  -- the abstract heap: the script alone, where it is none of the module's own objects
  obtain ⟨H, hO, hS, hok, hA, hK⟩ : ∃ H : Hp, Only H ∧ SqL K H a (ns.map V.int) ∧ HOk P w H s₁.heap ∧ (∀ b, H b ≠ none → b = a) ∧ (H a ≠ none → K.lookup a = none) := by
    cases hk : K.lookup a with
    | some o =>
      have e := (KX a o hk).symm.trans ha
      cases e
      exact ⟨fun _ => none, fun _ => .inl rfl, .inr ⟨_, vs.toArray, _, hk, rfl, rfl, rfl, by rw [List.size_toArray, hi.length]; exact hl, by simpa using rv⟩, fun b u z => (nomatch z), fun b z => absurd rfl z, fun z => absurd rfl z⟩
    | none =>
      refine ⟨upd (fun _ => none) a (.frz { cls := .type "list", data := .seq vs.toArray } (.lst (ns.map V.int))), fun b => ?_, .inl (.inr ⟨_, upd_same⟩), fun b u z => ?_, fun b z => ?_, fun _ => rfl⟩
      · by_cases q : b = a
        · subst q
          exact .inr ⟨_, _, upd_same⟩
        · exact .inl (upd_ne q)
      · by_cases q : b = a
        · subst q
          rw [upd_same] at z
          cases z
          exact ⟨ha, by rw [List.length_map]; exact hl, vs, _, rv, ha⟩
        · rw [upd_ne q] at z
          cases z
      · by_cases q : b = a
        · exact q
        · exact absurd (upd_ne q) z
  have only : ∀ {b : Addr} {o : Obj}, s₁.heap.get? b = some o → (b = a → o = { cls := .type "list", data := .seq vs.toArray }) := fun {b o} e q => by
    subst q
    exact Option.some.inj (e.symm.trans ha)
  have free : ∀ {b : Addr}, b ≠ a → H b = none := fun {b} q => by
    cases z : H b with
    | none => rfl
    | some u => exact absurd (hA b (by rw [z]; simp)) q
  have ns_ : ∀ {b : Addr} {m : Str → Option Value}, s₁.heap.Ns b m → (hidT s₁.heap H).Ns b m := fun {b m} ⟨o, es, ep, e, d, r⟩ => ⟨o, es, ep, hidT_get e (free fun q => by rw [only e q] at d; cases d), d, r⟩
  have kb : K.In (hidT s₁.heap H) := fun b o e => hidT_get (KX b o e) (by
    cases z : H b with
    | none => rfl
    | some u =>
      have q := hA b (by rw [z]; simp)
      subst q
      rw [hK (by rw [z]; simp)] at e
      cases e)
  have md : Mod K mg (hidT s₁.heap H) := ⟨kb, ns_ hns, ⟨mb, ns_ hb, hbb⟩, let ⟨mc, h1, h2⟩ := hlim; ⟨mc, ns_ h1, h2⟩⟩
  have e0 : Env0 P w K mg (hidT s₁.heap H) callerA [] s₁ H := ⟨rfl, md, fun _ _ e => of_hidT e, Nat.le_of_eq (hidT_size _ _), trivial, (fun _ q => nomatch q), hok, .of_eq hg⟩
  refine codeAny_mono ((F _ kb (ns_ hns)).run callerA [] s₁ H ⟨[.ref a], []⟩ [.ref a] [.ref a] _ hz e0 (hbind s₁ (.ref a)) (.cons rfl .nil) (hsp H hO hS)) fun r s' h => ?_
  match r, h with
  | .ok (.ret u), ⟨v, H', os, bare, un, hok', r', q⟩ =>
    have q' : v = .bl true := q
    subst q'
    obtain rfl : u = Value.bool true := r'
    refine ⟨rfl, OldK.of_keep fun b o e => ?_, os, bare⟩
    cases z : H b with
    | none => exact un.keep b o e z (fun y => nomatch y) (fun y => nomatch y)
    | some u =>
      rcases hO b with y | ⟨ob, xs, y⟩
      · rw [z] at y
        cases y
      · have e1 := (hok b _ y).1
        have e2 := (hok' b _ (un.frzs b ob _ y)).1
        rw [e] at e1
        cases e1
        exact e2
theorem walk_ofZ {Z : Around → Prop} {l : PySem.W.OpenLaw} {n : Nat} {q : Program} {loose : List Str} {XP : (Str → Option Value) → Heap → Prop} {YP : World → Heap → Prop} {d : DefRec} {K : Params → PySem.W.Frag} {sp : World → Sp} {x : Str}
    (hn : l.most = some n) (hn2 : n ≤ sizeLine) (hdf : d.params.defaults = []) (hz : Z callerA) (hY : ∀ (w : World) (h : Heap), YP w h → (K w.params).In h)
    (F : ∀ (w : World) (mg : Str → Option Value) (fa : Addr) (h : Heap), (K w.params).In h → h.Ns mainGlobals mg → mg d.name = some (.ref fa) →
      ∃ fd : FuncData, (∀ (s : Shared) (u : Value), BindsTo s fd ⟨[u], []⟩ [(x, u)]) ∧ ∀ base : Heap, (K w.params).In base → base.Ns mainGlobals mg → FnZ Z l.prog w (K w.params) mg base fa fd [x] (sp w))
    (hsp : ∀ (w : World) (H : Hp) (a : Addr) (ns : List Int), ns.length ≤ n → Only H → SqL (K w.params) H a (ns.map V.int) → sp w [.ref a] H (fun v _ => v = .bl true) E0) :
    PySem.W.WalkO q loose XP YP l.row.toRowW d [] (fun f vs => PySem.call f vs) := by
  refine Att.attach_call hn hdf fun w s₀ s₁ mg mb fa o pm cd doc a vs ns G Y ho hd hcd hmg hobj hints hlen hg => ?_
  have KX := hY w _ Y
  obtain ⟨fd, hb, hF⟩ := F w mg fa _ KX G.T.g hmg
  exact law_callZ KX G.T.g G.T.b G.T.builtins G.T.nolimit hg hobj hints (Nat.le_trans hlen hn2) hz hF hb fun H hO hS => hsp w H a ns hlen hO hS
end L2
set_option Elab.async false
set_option linter.all false
set_option maxRecDepth 100000
set_option maxHeartbeats 4000000
namespace Toy
open PySem L2
abbrev sIsName : Stmt := top 13
abbrev sIsWr : Stmt := top 14
def CAPS : Str := "ABCDEFGHIJKLMNOPQRSTUVWXYZ"
def SMALLS : Str := "abcdefghijklmnopqrstuvwxyz0123456789"
def capB (c : Nat) : Bool := decide (c ∈ CAPS.cps.toList)
def smB (c : Nat) : Bool := decide (c ∈ SMALLS.cps.toList)
/-- a name as written -/
def wrL : List Nat → Bool
  | [] => false
  | c :: r => decide (r.length ≤ 7) && (capB c && r.all smB)
def wrB (x : Str) : Bool := wrL x.cps.toList
def spWr : Sp := fun vs H Q _ => ∃ (x : Str), vs = [.str x] ∧ x.length ≤ sizeLine ∧ PyData.strOk x = true ∧ ∀ H', Same H H' → Q (.bl (wrB x)) H'
/-- the constants and built-in names of the text -/
structure Nk (mg : Str → Option Value) : Prop where
  caps : ∃ t, mg "CAPITALS" = some (.str CAPS t)
  smalls : ∃ t, mg "SMALL" = some (.str SMALLS t)
  lw : ∃ t, mg "LONGEST_WRITTEN" = some (.int 8 t)
  ln : ∃ t, mg "LONGEST_NAME" = some (.int 60 t)
  len : mg "len" = none
  all : mg "all" = none
theorem cutS_tail (x : Str) : (cutS x (some 1) none).cps.toList = x.cps.toList.drop 1 := by
  have e : x.cps.toList.length = x.length := by show x.cps.toList.length = x.cps.size; exact Array.length_toList
  unfold cutS
  rw [HT.sIx_none, show HT.sIx x.length 0 (some 1) = min 1 x.length from HT.sIx_nat x.length 0 1]
  show ((x.cps.toList.drop (min 1 x.length)).take (x.length - min 1 x.length)) = _
  by_cases h : 1 ≤ x.length
  · rw [Nat.min_eq_left h, List.take_of_length_le (by rw [List.length_drop, e]; exact Nat.le_refl _)]
  · have z : x.length = 0 := by omega
    rw [z] at e
    rw [List.length_eq_zero_iff.mp e]
    simp
theorem size_toList (x : Str) : x.cps.size = x.cps.toList.length := Array.length_toList.symm
theorem get_toList {x : Str} {i c : Nat} (h : x.cps[i]? = some c) : x.cps.toList[i]? = some c := by rw [Array.getElem?_toList]; exact h
section
variable {P : Program} {w : World} {K : PySem.W.Frag} {mg : Str → Option Value} {base : Heap}
theorem scIW : FnScope ["text", "sign"] ["text"] (defScope sIsWr) := ⟨rfl, rfl, rfl, by decide +kernel, rfl, by decide +kernel, by decide +kernel⟩
theorem ok_iswr {f : Addr} {fd : FuncData} (F : Fun K "is_written" "is_written" sIsWr f fd) (T : Nk mg) : FnOk P w K mg base CX0 1 f fd ["text"] spWr := by
  refine F.ok scIW (fun vs H Q E h => ?_) (fun cdv A outer s H vs Q E hr h => ?_)
  · obtain ⟨x, rfl, _⟩ := h
    rfl
  obtain ⟨x, rfl, hx, hok, q⟩ := h
  obtain ⟨t1, h1⟩ := T.caps
  obtain ⟨t2, h2⟩ := T.smalls
  obtain ⟨t3, h3⟩ := T.lw
  refine ⟨_, pss_cons (ps_if (PW.pt (pw_or (pt_cmpR op_eq (pv 0) pe_str (nomark _)) (pw_or1 (pt_cmpR op_gt (pe_callB call_len_str rfl T.len PySem.boot_len (pa_cons (pv 0) pa_nil)) (pe_glob (v := .int 8) rfl h3 ⟨_, rfl⟩) (nomark _))))) (pss_one (ps_ret pe_bl)) pss_nil)
    (pss_one (ps_ret (pe_and (pe_cmpR op_in_sign (pe_ix ix_str (pv 0) pe_int (fun _ _ => rfl)) (pe_glob (v := .str CAPS) rfl h1 ⟨_, rfl⟩) (by rfl))
      (pe_one (pe_callB (cr_all rfl) rfl T.all (by decide +kernel) (pa_cons (pe_lc (own := [("sign", 1)]) (g := gName 1) (tt := tYes) rfl scIW.nd (pi_str (pe_slice sl_str (pv 0) (po_some pe_int) po_none)) (blkOk_by (own := [("sign", 1)]) (N := ["text", "sign"]) (sc := defScope sIsWr) (by decide +kernel))
        (fun _ _ _ _ _ => pg_name (i := 1) scIW.nd rfl (.inl rfl)) (fun _ _ _ _ _ => pts_nil) (fun _ _ _ _ _ => pe_cmpR op_in_sign (pv 1) (pe_glob (v := .str SMALLS) rfl h2 ⟨_, rfl⟩) (by rfl))) pa_nil)))))), ?_⟩
  have eL : x.cps.toList.length = x.length := Array.length_toList
  refine ⟨_, rfl, rfl, _, rfl, ?_⟩
  refine ite2 (fun h => ?_) (fun h => ?_)
  · have e : x = "" := by
      have z := of_decide_eq_true h
      injection z
    subst e
    exact q H (Same.refl H)
  · have hne : x.cps.toList ≠ [] := fun z => h (by
      have : x = "" := by
        cases x with
        | mk c =>
          have : c = #[] := by simpa using z
          subst this
          rfl
      rw [this]
      exact decide_eq_true rfl)
    refine ⟨_, rfl, _, rfl, hx, _, _, rfl, rfl, _, rfl, ?_⟩
    cases hl : x.cps.toList with
    | nil => exact absurd hl hne
    | cons c r =>
      have hlen : x.length = r.length + 1 := by rw [← eL, hl]; rfl
      have hw : wrB x = (decide (r.length ≤ 7) && (capB c && r.all smB)) := by unfold wrB; rw [hl]; rfl
      refine ite2 (fun g => ?_) (fun g => ?_)
      · have g' : (x.length : Int) > 8 := of_decide_eq_true g
        have e : wrB x = false := by rw [hw, decide_eq_false (by omega)]; rfl
        rw [← e]
        exact q H (Same.refl H)
      · have g' : ¬ (x.length : Int) > 8 := of_decide_eq_false (Bool.eq_false_iff.mpr g)
        refine ⟨_, rfl, _, 0, c, rfl, rfl, hx, atI_nat (j := 0) (by rw [hl]; rfl), c, CAPS, rfl, rfl, _, rfl, ?_⟩
        refine ite2 (fun gc => ?_) (fun gc => ?_)
        · refine ⟨_, rfl, _, rfl, x, rfl, hx, _, rfl, fun D nD => ?_⟩
          have et : (cutS x (some 1) none).cps.toList = r := by rw [cutS_tail, hl]; rfl
          refine lc_it walk_str (fun i H2 => Same H H2 ∧ H2 D = some (.lst ((r.take i).map fun c => V.bl (smB c)))) ⟨same_new nD _, upd_same⟩ (fun _ _ _ _ => trivial) ?_ ?_
          · rintro i y H2 _ hi ⟨s2, hD⟩ ⟨rfl, d, hd, rfl⟩
            refine ⟨rfl, ?_⟩
            simp only [tYes, ↓reduceIte]
            have hd' : r[i]? = some d := by rw [← et]; exact get_toList hd
            have hi' : i < r.length := (List.getElem?_eq_some_iff.mp hd').1
            refine ⟨_, rfl, d, SMALLS, rfl, rfl, _, hD, (by rw [List.length_map, List.length_take]; exact Nat.lt_of_le_of_lt (Nat.min_le_right _ _) (by omega)), fun b o e => by rw [upd_ne (ne_of_none e nD)]; exact s2 _ _ e, ?_⟩
            rw [upd_same, List.take_add_one, hd']
            simp only [Option.toList, List.map_append, List.map_cons, List.map_nil]
            rfl
          · rintro H2 ⟨s2, hD⟩
            rw [size_toList, et, List.take_length] at hD
            refine ⟨D, r.map smB, rfl, SqL.of (by rw [hD, List.map_map]; rfl), ?_⟩
            have e : wrB x = (r.map smB).all id := by
              rw [hw, decide_eq_true (by omega), show capB c = true from gc, List.all_map]
              rfl
            rw [← e]
            exact q H2 s2
        · have e : wrB x = false := by
            rw [hw, show capB c = false from Bool.eq_false_iff.mpr gc]
            cases decide (r.length ≤ 7) <;> rfl
          rw [← e]
          exact q H (Same.refl H)
theorem one_ok {c : Nat} (h : c < 0x110000) : PyData.strOk ⟨#[c]⟩ = true := by
  unfold PyData.strOk
  simp [h]
theorem ok_code {x : Str} (h : PyData.strOk x = true) {c : Nat} (m : c ∈ x.cps.toList) : c < 0x110000 := by
  unfold PyData.strOk at h
  rw [← Array.all_toList] at h
  exact of_decide_eq_true (List.all_eq_true.mp h c m)
theorem strs_canLay : ∀ l : List Nat, (∀ c ∈ l, c < 0x110000) → PyData.canLayAll0 (l.map fun c => PyData.str ⟨#[c]⟩) = true
  | [], _ => by simp only [List.map_nil, PyData.canLayAll0]
  | c :: r, h => by simp only [List.map_cons, PyData.canLayAll0, PyData.canLay0, one_ok (h c List.mem_cons_self), strs_canLay r fun x hx => h x (List.mem_cons_of_mem _ hx), Bool.and_self]
theorem strs_depth : ∀ l : List Nat, PyData.depthAll (l.map fun c => PyData.str ⟨#[c]⟩) = 0
  | [] => by simp only [List.map_nil, PyData.depthAll]
  | c :: r => by simp only [List.map_cons, PyData.depthAll, PyData.depth, strs_depth r, Nat.max_self]
theorem strs_shaped (l : List Nat) (h : ∀ c ∈ l, c < 0x110000) : SeqAt.shaped (.list (l.map fun c => PyData.str ⟨#[c]⟩)) = true := by
  unfold SeqAt.shaped
  have e : (PyData.list (l.map fun c => PyData.str ⟨#[c]⟩)).canLay0 = true := by simp only [PyData.canLay0, strs_canLay l h]
  rw [e, Bool.true_and]
  refine decide_eq_true ?_
  simp only [PyData.depth, strs_depth]
  omega
theorem dp_strs {H : Hp} : ∀ l : List Nat, DpAll K H (l.map fun c => V.str ⟨#[c]⟩) (l.map fun c => PyData.str ⟨#[c]⟩)
  | [] => .nil
  | _ :: r => .cons (.str _) (dp_strs r)
theorem eqv_nil (l : List PyData) : PyData.eqv (.list l) (.list []) = l.isEmpty := by
  cases l <;> simp [PyData.eqv, PyData.eqvAll]
theorem filt_empty : ∀ r : List Nat, ((r.filter fun c => !smB c).map fun c => PyData.str ⟨#[c]⟩).isEmpty = r.all smB
  | [] => rfl
  | c :: r => by
    by_cases h : smB c = true
    · rw [List.filter_cons_of_neg (by rw [h]; decide), List.all_cons, h, Bool.true_and]
      exact filt_empty r
    · have e : smB c = false := Bool.eq_false_iff.mpr h
      rw [List.filter_cons_of_pos (by rw [e]; rfl), List.all_cons, e]
      rfl
end
end Toy
set_option Elab.async false
set_option linter.all false
set_option maxRecDepth 100000
set_option maxHeartbeats 4000000
namespace L2
open PySem PySem.Spec PyProof.Rows
/-! ### type(x), isinstance(x, T) of drawn data -/
def tyD : PyData → String
  | .none => "NoneType"
  | .bool _ => "bool"
  | .int _ => "int"
  | .str _ => "str"
  | .list _ => "list"
  | .tuple _ => "tuple"
  | .dict _ => "dict"
theorem tyD_ne : ∀ d : PyData, (Value.type (tyD d) == Value.type "builtin_function_or_method") = false
  | .none => by show (Value.type "NoneType" == _) = false; decide +kernel
  | .bool _ => by show (Value.type "bool" == _) = false; decide +kernel
  | .int _ => by show (Value.type "int" == _) = false; decide +kernel
  | .str _ => by show (Value.type "str" == _) = false; decide +kernel
  | .list _ => by show (Value.type "list" == _) = false; decide +kernel
  | .tuple _ => by show (Value.type "tuple" == _) = false; decide +kernel
  | .dict _ => by show (Value.type "dict" == _) = false; decide +kernel
section
variable {X : Cx} {pins : List (Addr × Obj)} {σ : St} {H : Hp} {s : Shared}
theorem Dq.typeIs (I : Inv X pins σ H s) : ∀ {d : PyData} {v : V} {u : Value}, Dq X.K H v d → RelV v u → s.TypeIs u (tyD d) ∧ (Value.type (tyD d) == Value.type "builtin_function_or_method") = false
  | _, _, _, .non, r => by cases r; exact ⟨rfl, tyD_ne _⟩
  | _, _, _, .bl b, r => by cases r; exact ⟨rfl, tyD_ne _⟩
  | _, _, _, .int i, r => by obtain ⟨t, rfl⟩ := r; exact ⟨typeIs_int s i t, tyD_ne _⟩
  | _, _, _, .str x, r => by obtain ⟨t, rfl⟩ := r; exact ⟨typeIs_str s x t, tyD_ne _⟩
  | _, _, _, .lst hs _, r => by
    cases r
    obtain ⟨its, rv, p, _⟩ := I.list hs
    exact ⟨p.isList.typeIs, tyD_ne _⟩
  | _, _, _, .tup hs _, r => by
    cases r
    obtain ⟨its, rv, p, _⟩ := I.tuple hs.seqT
    exact ⟨p.typeIs, tyD_ne _⟩
  | _, _, _, .dic h, r => by
    cases r
    obtain ⟨o, n, ho, hc, _⟩ := dic_at I h
    exact ⟨⟨o, ho, hc⟩, tyD_ne _⟩
def rTyD (K : PySem.W.Frag) : List V → Hp → VK → Prop := fun xs H Q => ∃ (x : V) (d : PyData), xs = [x] ∧ Dq K H x d ∧ Q (.ty (tyD d)) H
theorem call_tyD : CallR X (.type "type") (rTyD X.K) := by
  intro pins s σ H xs us Q I r h
  obtain ⟨x, d, rfl, D, q⟩ := h
  obtain ⟨u, rfl, rx⟩ := vals1 r
  obtain ⟨h1, h2⟩ := D.typeIs I rx
  exact call_type_of h1 h2 ⟨.ty (tyD d), H, I, rfl, q⟩
def rIsD (K : PySem.W.Frag) (T : String) : List V → Hp → VK → Prop := fun xs H Q => ∃ (x : V) (d : PyData) (b : Bool), xs = [x, .ty T] ∧ Dq K H x d ∧ PySem.W.kitOne K (.type (tyD d)) (.type T) = some b ∧ Q (.bl b) H
theorem call_isD {T : String} : CallR X (.builtin "isinstance") (rIsD X.K T) := by
  intro pins s σ H xs us Q I r h
  obtain ⟨x, d, b, rfl, D, e, q⟩ := h
  cases r with
  | cons rx rr =>
    cases rr with
    | cons rt rr =>
      cases rr
      cases rt
      have fin : ∀ tk, EP X pins σ Q (.bool b) { s with toks := tk } := fun tk => ⟨.bl b, H, I.kept (t' := tk) fun _ _ z => z, rfl, q⟩
      cases D with
      | non => cases rx; exact PySem.W.kia_one PySem.W.kitx_none I.kIn True.intro e (fun z => nomatch z) fin
      | bl y => cases rx; exact PySem.W.kia_one PySem.W.kitx_bool I.kIn True.intro e (fun z => nomatch z) fin
      | int i => obtain ⟨t, rfl⟩ := rx; exact PySem.W.kia_one PySem.W.kitx_int I.kIn True.intro e (fun z => nomatch z) fin
      | str y => obtain ⟨t, rfl⟩ := rx; exact PySem.W.kia_one PySem.W.kitx_str I.kIn True.intro e (fun z => nomatch z) fin
      | lst hs _ =>
        cases rx
        obtain ⟨its, rv, ⟨o, n, ho, hc, _, hd⟩, _⟩ := I.list hs
        exact PySem.W.kia_one PySem.W.kitx_list I.kIn ⟨o, ho, hc⟩ e (fun z => nomatch z) fin
      | tup hs _ =>
        cases rx
        obtain ⟨its, rv, ⟨o, ho, hc, n, hd⟩, _⟩ := I.tuple hs.seqT
        exact PySem.W.kia_one PySem.W.kitx_tuple I.kIn ⟨o, ho, hc⟩ e (fun z => nomatch z) fin
      | dic hs =>
        cases rx
        obtain ⟨o, n, ho, hc, _⟩ := dic_at I hs
        exact PySem.W.kia_one PySem.W.kitx_dict I.kIn ⟨o, ho, hc⟩ e (fun z => nomatch z) fin
end
theorem kit_tyD {K : PySem.W.Frag} {a b : String} {c : Bool} (h : ((PySem.W.kitMeta b) && (PySem.fastBuiltinMro a).isSome && decide ((PySem.fastBuiltinMro a).map (·.contains (.type b)) = some c)) = true) (n : (Value.type a == Value.type b) = c) : PySem.W.kitOne K (.type a) (.type b) = some c := by
  unfold PySem.W.kitOne
  cases c with
  | true => rw [if_pos n]
  | false =>
    rw [if_neg (by rw [n]; exact Bool.false_ne_true)]
    simp only [Bool.and_eq_true, decide_eq_true_eq] at h
    show (if PySem.W.kitMeta b = true then _ else _) = _
    rw [if_pos h.1.1]
    exact h.2
end L2
set_option Elab.async false
set_option linter.all false
set_option maxRecDepth 100000
set_option maxHeartbeats 4000000
namespace PySem.TypeEq
open Builtin
theorem slot_type_ne : Slot "type" (cmpInfo .NotEq).2.1 "object.__ne__" :=
  .of (owner := "object") (n := "__ne__") (by rw [typeLookup_type, builtinLookup_eq_fast]; kernel_rfl) (by decide +kernel) (by decide +kernel) (by decide +kernel)
    (by first | exact .inl (by decide +kernel) | exact .inr (by decide +kernel)) (by rw [isSubtype_type]; kernel_rfl)
theorem slot_type_ne_refl : Slot "type" (cmpInfo .NotEq).2.2 "object.__ne__" := slot_type_ne
section
variable {prog : Program} {w : World} {A : Around} {E : Value → Shared → Prop} {s : Shared} {Q : Value → Shared → Prop} {X Y : String}
theorem special_types (hX : ∀ s' : Shared, s'.TypeIs (.type X) "type") {Q : Option Value → Shared → Prop} (h : Q (some (if (Value.type X == Value.type Y) = true then .bool true else .notImplemented)) s) :
    wpAny (model prog w) A (callSpecialIfBound? (.type X) "__eq__" [.type Y]) Q E s := by
  refine wpAny_callSpecialIfBound?_slot (hX s) slot_type_eq ?_
  cases hk : (Value.type X == Value.type Y) with
  | true =>
    rw [hk, if_pos rfl] at h
    exact call_gives slot_type_eq (hX s) F.entry_object_eq (F.args_object_eq_2 _ _) (object_eq_same rfl hk) h
  | false =>
    rw [hk, if_neg Bool.false_ne_true] at h
    exact call_gives slot_type_eq (hX s) F.entry_object_eq (F.args_object_eq_2 _ _) (object_eq_other rfl hk) h
theorem meets_ne (hX : ∀ s' : Shared, s'.TypeIs (.type X) "type") : Meets (Builtin.«object.__ne__» ⟨[.type X, .type Y], []⟩) fun _ R s => R (.ok (.ret (if (Value.type X == Value.type Y) = true then .bool false else .notImplemented))) s :=
  .of_wp fun prog w A R s h => by
    unfold Builtin.«object.__ne__»
    refine wpAny_bind (wpAny_of_eq (a := ((Value.type X : Value), [Value.type Y])) (by first | rfl | (simp only [slotArgs]; rfl)) ?_)
    refine wpAny_bind (wpAny_cRoomFor_or (.inl rfl) ?_)
    refine wpAny_bind (special_types hX ?_)
    cases hk : (Value.type X == Value.type Y) with
    | true =>
      rw [hk, if_pos rfl] at h
      simp only [if_true]
      exact wpAny_bind (wpAny_truthy_bool (wpAny_pure ⟨_, rfl, h⟩))
    | false =>
      rw [hk, if_neg Bool.false_ne_true] at h
      simp only [Bool.false_eq_true, if_false]
      exact wpAny_pure ⟨_, rfl, h⟩
theorem ne_types (hX : ∀ s' : Shared, s'.TypeIs (.type X) "type") (hY : ∀ s' : Shared, s'.TypeIs (.type Y) "type") (h : Q (.bool (!(Value.type X == Value.type Y))) s) : wpAny (model prog w) A (compareOp .NotEq (.type X) (.type Y)) Q E s := by
  show wpAny _ A (richCompare .NotEq _ _) Q E s
  cases hk : (Value.type X == Value.type Y) with
  | true =>
    rw [hk] at h
    refine wpAny_richCompare_same (T := "type") (hX s) (hY s) slot_type_ne (call_meets slot_type_ne (hX s) F.cmpEntry_ne (F.cmpArgs_ne _ _) (meets_ne hX) ?_)
    rw [hk, if_pos rfl]
    exact ⟨(fun e => nomatch e), h⟩
  | false =>
    rw [hk] at h
    have hk' : (Value.type Y == Value.type X) = false := by
      rw [Bool.eq_false_iff] at hk ⊢
      intro e
      exact hk (by rw [beq_iff_eq] at e ⊢; exact e.symm)
    rcases hi : cmpInfo CmpOp.NotEq with ⟨sym, f, r⟩
    have h1 := slot_type_ne
    have h2 := slot_type_ne_refl
    rw [hi] at h1 h2
    simp only [richCompare, hi, (hX s).oneThing_none]
    refine wpAny_holding ?_
    refine wpAny_bind (wpAny_cRoomFor_or (.inl rfl) ?_)
    refine wpAny_bind (wpAny_typeOf (hX s) (wpAny_bind (wpAny_typeOf (hY s) ?_)))
    simp only [bne_self_eq_false, Bool.false_eq_true, if_false, pure_bind, Bool.not_false, if_true]
    refine wpAny_bind (m := tryCompare _ _ _) (wpAny_tryCompare_declines (hX s) h1 (call_meets slot_type_ne (hX s) F.cmpEntry_ne (F.cmpArgs_ne _ _) (meets_ne hX) ?_))
    rw [hk, if_neg Bool.false_ne_true]
    refine ⟨rfl, ?_⟩
    refine wpAny_bind (m := tryCompare _ _ _) (wpAny_tryCompare_declines (hY s) h2 (call_meets slot_type_ne (hY s) F.cmpEntry_ne (F.cmpArgs_ne _ _) (meets_ne hY) ?_))
    rw [hk', if_neg Bool.false_ne_true]
    refine ⟨rfl, ?_⟩
    refine wpAny_bind (wpAny_rule (wpAny_bind (wpAny_of_eq (a := false) (by rw [isSame_plain rfl, hk]) (wpAny_pure h))))
end
end PySem.TypeEq
namespace L2
open PySem PySem.Spec PyProof.Rows
theorem tyD_meta : ∀ (d : PyData) (s : Shared), s.TypeIs (.type (tyD d)) "type"
  | .none, s => TypeEq.meta_NoneType s
  | .bool _, s => TypeEq.meta_bool s
  | .int _, s => TypeEq.meta_int s
  | .str _, s => TypeEq.meta_str s
  | .list _, s => TypeEq.meta_list s
  | .tuple _, s => TypeEq.meta_tuple s
  | .dict _, s => TypeEq.meta_dict s
/-- type(x) != T -/
def rNeTy : R2 := fun x y H Q => ∃ (d : PyData) (T : String), x = .ty (tyD d) ∧ y = .ty T ∧ (∀ s : Shared, s.TypeIs (.type T) "type") ∧ Q (.bl (!decide (tyD d = T))) H
theorem op_neTy {X : Cx} : OpR X (compareOp .NotEq) rNeTy := by
  intro pins s σ H x y v u Q I rx ry h
  obtain ⟨d, T, rfl, rfl, hT, q⟩ := h
  cases rx
  cases ry
  refine TypeEq.ne_types (tyD_meta d) hT ⟨.bl _, H, I, rfl, ?_⟩
  have e : (Value.type (tyD d) == Value.type T) = decide (tyD d = T) := by
    by_cases h : tyD d = T
    · rw [h, decide_eq_true rfl]; exact beq_self_eq_true _
    · rw [decide_eq_false h, Bool.eq_false_iff]
      intro z
      rw [beq_iff_eq] at z
      injection z with z
      exact h z
  rw [e]
  exact q
end L2
set_option Elab.async false
set_option linter.all false
set_option maxRecDepth 100000
set_option maxHeartbeats 4000000
namespace Toy
open PySem L2
def namL : List Str → Bool
  | [] => false
  | p :: r => wrB p && r.all fun q => decide (V.str q = V.str "") || wrB q
def quo : Str := "'"
def nmB : PyData → Bool
  | .str x => decide (x.length ≤ 60) && namL (Txt.split x quo)
  | _ => false
/-! ### the texts of a thing -/
mutual
def txtB : PyData → Bool
  | .str x => PyData.strOk x && decide (x.length ≤ 2000)
  | .list ds => txtAll ds
  | .tuple ds => txtAll ds
  | _ => true
def txtAll : List PyData → Bool
  | [] => true
  | d :: ds => txtB d && txtAll ds
end
theorem app_cps (a b : Str) : (a ++ b).cps.toList = a.cps.toList ++ b.cps.toList := by
  show (a.cps ++ b.cps).toList = _
  exact Array.toList_append
theorem join_mem (y : Str) : ∀ (l : List Str) (p : Str), p ∈ l → (∀ c, c ∈ p.cps.toList → c ∈ (Str.join y l).cps.toList) ∧ p.length ≤ (Str.join y l).length
  | [], _, h => nomatch h
  | [x], p, h => by
    rw [List.mem_singleton.mp h]
    exact ⟨fun _ m => m, Nat.le_refl _⟩
  | x :: z :: r, p, h => by
    show (∀ c, c ∈ p.cps.toList → c ∈ (x ++ y ++ Str.join y (z :: r)).cps.toList) ∧ p.length ≤ (x ++ y ++ Str.join y (z :: r)).length
    rw [app_cps, app_cps, strLen_append, strLen_append]
    rcases List.mem_cons.mp h with rfl | h
    · exact ⟨fun c m => List.mem_append_left _ (List.mem_append_left _ m), by omega⟩
    · obtain ⟨a, b⟩ := join_mem y (z :: r) p h
      exact ⟨fun c m => List.mem_append_right _ (a c m), by omega⟩
theorem split_mem {x y p : Str} (h : p ∈ Txt.split x y) (ok : PyData.strOk x = true) : PyData.strOk p = true ∧ p.length ≤ x.length := by
  obtain ⟨a, b⟩ := join_mem y _ p h
  rw [StrLaws.join_split] at a b
  refine ⟨?_, b⟩
  unfold PyData.strOk
  rw [← Array.all_toList]
  exact List.all_eq_true.mpr fun c m => decide_eq_true (ok_code ok (a c m))
theorem split_ne (x y : Str) : Txt.split x y ≠ [] := by
  unfold Txt.split
  split
  · exact fun h => nomatch h
  · split
    · exact fun h => nomatch h
    · intro h
      have := length_partsBetween x (Builtin.Str.occurrences x y 0 x.length (x.length + 1)) y.length
      rw [h] at this
      exact absurd this (Nat.succ_ne_zero _).symm
theorem cutV_tail (xs : List V) : cutV xs (some 1) none = xs.drop 1 := by
  unfold cutV
  rw [HT.sIx_none, show HT.sIx xs.length 0 (some 1) = min 1 xs.length from HT.sIx_nat xs.length 0 1]
  by_cases h : 1 ≤ xs.length
  · rw [Nat.min_eq_left h, List.take_of_length_le (by rw [List.length_drop]; exact Nat.le_refl _)]
  · have z : xs.length = 0 := by omega
    rw [List.length_eq_zero_iff.mp z]
    simp
def spNm (K : PySem.W.Frag) : Sp := fun vs H Q _ => ∃ (v : V) (d : PyData), vs = [v] ∧ Dq K H v d ∧ txtB d = true ∧ ∀ H', Same H H' → Q (.bl (nmB d)) H'
structure Nt (mg : Str → Option Value) : Prop where
  type : mg "type" = none
  str : mg "str" = none
  isi : mg "isinstance" = none
structure Gv (P : Program) (w : World) (K : PySem.W.Frag) (mg : Str → Option Value) (base : Heap) (k : Nat) (x : Str) (f : Addr) (fd : FuncData) (ps : List Str) (sp : Sp) : Prop where
  ok : FnOk P w K mg base CX0 k f fd ps sp
  b : Binds K fd ps []
  k : PySem.W.keepIn K (.ref f) = true
  m : mg x = some (.ref f)
theorem nmB_not {d : PyData} (h : tyD d ≠ "str") : nmB d = false := by
  cases d <;> first | rfl | exact absurd rfl h
section
variable {P : Program} {w : World} {K : PySem.W.Frag} {mg : Str → Option Value} {base : Heap}
theorem scIN : FnScope ["value", "pieces", "piece"] ["value"] (defScope sIsName) := ⟨rfl, rfl, rfl, by decide +kernel, rfl, by decide +kernel, by decide +kernel⟩
theorem ok_isname {f g : Addr} {fd gd : FuncData} (F : Fun K "is_name" "is_name" sIsName f fd) (T : Nk mg) (U : Nt mg) (W : Gv P w K mg base 1 "is_written" g gd ["text"] spWr) : FnOk P w K mg base CX0 2 f fd ["value"] (spNm K) := by
  refine F.ok scIN (fun vs H Q E h => ?_) (fun cdv A outer s H vs Q E hr h => ?_)
  · obtain ⟨v, d, rfl, _⟩ := h
    rfl
  obtain ⟨v, d, rfl, hd, ht, q⟩ := h
  obtain ⟨t4, h4⟩ := T.ln
  refine ⟨_, pss_cons (ps_if (PW.pt (pw_or (pt_cmpR op_neTy (pe_callTy call_tyD rfl U.type (by decide +kernel) (pa_cons (pv 0) pa_nil)) (pe_bltn (v := .ty "str") rfl U.str (by decide +kernel) rfl (by decide) (by decide)) (nomark _))
      (pw_or1 (pt_cmpR op_gt (pe_callB call_len_str rfl T.len PySem.boot_len (pa_cons (pv 0) pa_nil)) (pe_glob (v := .int 60) rfl h4 ⟨_, rfl⟩) (nomark _))))) (pss_one (ps_ret pe_bl)) pss_nil)
    (pss_cons (ps_set (i := 1) scIN.nd rfl (.inl rfl) (pe_split (pv 0) pe_str))
    (pss_one (ps_ret (pe_and (pe_call W.ok hr rfl W.m W.k W.b .nil pass0 (pa_cons (pe_ix ix_list (pv 1) pe_int (fun _ _ => rfl)) pa_nil))
      (pe_one (pe_callB (cr_all rfl) rfl T.all (by decide +kernel) (pa_cons (pe_lc (own := [("piece", 2)]) (g := gName 2) (tt := tYes) rfl scIN.nd (pi_list (pe_slice sl_list (pv 1) (po_some pe_int) po_none)) (blkOk_by (own := [("piece", 2)]) (N := ["value", "pieces", "piece"]) (sc := defScope sIsName) (by decide +kernel))
        (fun _ _ _ _ _ => pg_name (i := 2) scIN.nd rfl (.inl rfl)) (fun _ _ _ _ _ => pts_nil) (fun _ _ _ _ _ => pe_or (pe_cmpR op_eq (pv 2) pe_str (nomark _)) (pe_one (pe_call W.ok hr rfl W.m W.k W.b .nil pass0 (pa_cons (pv 2) pa_nil))))) pa_nil))))))), ?_⟩
  refine ⟨_, rfl, _, d, rfl, hd, d, "str", rfl, rfl, TypeEq.meta_str, _, rfl, ?_⟩
  refine ite2 (fun h => ?_) (fun h => ?_)
  · have e : tyD d ≠ "str" := fun z => by
      rw [decide_eq_true z] at h
      cases h
    rw [← nmB_not e]
    exact q H (Same.refl H)
  · have e : tyD d = "str" := by
      by_cases z : tyD d = "str"
      · exact z
      · exact absurd (show (!decide (tyD d = "str")) = true by rw [decide_eq_false z]; rfl) h
    cases hd with
    | str x =>
      obtain ⟨hok, hx⟩ := Bool.and_eq_true_iff.mp ht
      have hx' : x.length ≤ 2000 := of_decide_eq_true hx
      have hz : ∀ {k : Nat}, k ≤ 2002 → k ≤ sizeLine := fun h => Nat.le_trans h (by decide)
      refine ⟨_, rfl, _, rfl, hz (by omega), _, _, rfl, rfl, _, rfl, ?_⟩
      refine ite2 (fun g => ?_) (fun g => ?_)
      · have g' : (x.length : Int) > 60 := of_decide_eq_true g
        have e : nmB (.str x) = false := by
          show (decide (x.length ≤ 60) && _) = false
          rw [decide_eq_false (by omega)]
          rfl
        rw [← e]
        exact q H (Same.refl H)
      · have g' : ¬ (x.length : Int) > 60 := of_decide_eq_false (Bool.eq_false_iff.mpr g)
        have en : nmB (.str x) = namL (Txt.split x quo) := by
          show (decide (x.length ≤ 60) && _) = _
          rw [decide_eq_true (by omega)]
          rfl
        rw [en] at q
        refine ⟨_, rfl, ⟨_, rfl⟩, x, quo, rfl, rfl, by decide, hz (by omega), fun L hL => ?_⟩
        have sL := same_new hL (.lst ((Txt.split x quo).map V.str))
        have aL : upd H L (.lst ((Txt.split x quo).map V.str)) L = some (.lst ((Txt.split x quo).map V.str)) := upd_same
        generalize upd H L (.lst ((Txt.split x quo).map V.str)) = H1 at sL aL ⊢
        have mem := fun (p : Str) (m : p ∈ Txt.split x quo) => split_mem m hok
        cases hl : Txt.split x quo with
        | nil => exact absurd hl (split_ne x quo)
        | cons p r =>
          rw [hl] at aL q mem
          obtain ⟨pk, pl⟩ := mem p List.mem_cons_self
          refine ⟨_, rfl, L, _, 0, _, rfl, rfl, SqL.of aL, atI_nat (j := 0) rfl, p, rfl, hz (by omega), pk, fun H2 s2 => ⟨_, rfl, ?_⟩⟩
          cases hw : wrB p with
          | false =>
            refine iteF ?_
            have e : namL (p :: r) = false := by show (wrB p && _) = false; rw [hw]; rfl
            rw [← e]
            exact q H2 (sL.trans s2)
          | true =>
            refine iteT ?_
            have e : namL (p :: r) = r.all fun q => decide (V.str q = V.str "") || wrB q := by show (wrB p && _) = _; rw [hw]; rfl
            rw [e] at q
            have aL2 := s2 _ _ aL
            refine ⟨_, rfl, _, rfl, L, _, rfl, SqL.of aL2, fun S hS => ?_⟩
            have sS := same_new hS (.lst (cutV ((p :: r).map V.str) (some 1) none))
            have aS : upd H2 S (.lst (cutV ((p :: r).map V.str) (some 1) none)) S = some (.lst (r.map V.str)) := by rw [upd_same, cutV_tail]; rfl
            generalize upd H2 S (.lst (cutV ((p :: r).map V.str) (some 1) none)) = H3 at sS aS ⊢
            refine ⟨S, rfl, ⟨_, SqL.of aS⟩, fun D nD => ?_⟩
            refine lc_it (walk_list (xs := r.map V.str)) (fun i H4 => Same H3 H4 ∧ H4 D = some (.lst ((r.take i).map fun q => V.bl (decide (V.str q = V.str "") || wrB q)))) ⟨same_new nD _, upd_same⟩ (fun i H4 _ z => SqL.of (z.1 _ _ aS)) ?_ ?_
            · rintro i y H4 _ hi ⟨s4, hD⟩ ⟨rfl, hy⟩
              refine ⟨rfl, ?_⟩
              simp only [tYes, ↓reduceIte]
              obtain ⟨u, hu, rfl⟩ : ∃ u, r[i]? = some u ∧ V.str u = y := by
                rw [List.getElem?_map] at hy
                cases z : r[i]? with
                | none => rw [z] at hy; cases hy
                | some u => rw [z] at hy; exact ⟨u, rfl, Option.some.inj hy⟩
              obtain ⟨uk, ul⟩ := mem u (List.mem_cons_of_mem _ (List.mem_of_getElem? hu))
              have hi' : i < r.length := (List.getElem?_eq_some_iff.mp hu).1
              have tk : ((r.take (i + 1)).map fun q => V.bl (decide (V.str q = V.str "") || wrB q)) = ((r.take i).map fun q => V.bl (decide (V.str q = V.str "") || wrB q)) ++ [V.bl (decide (V.str u = V.str "") || wrB u)] := by
                rw [List.take_add_one, hu]
                simp only [Option.toList, List.map_append, List.map_cons, List.map_nil]
              have len : ((r.take i).map fun q => V.bl (decide (V.str q = V.str "") || wrB q)).length < sizeLine := by
                rw [List.length_map, List.length_take]
                have hr2 : r.length ≤ x.length + 1 := by
                  have := PyProof.Rows.split_le x quo
                  rw [hl] at this
                  simp only [List.length_cons] at this
                  omega
                exact Nat.lt_of_le_of_lt (Nat.le_trans (Nat.min_le_right _ _) (Nat.le_trans hr2 (by omega : x.length + 1 ≤ 2001))) (by decide)
              refine ⟨_, rfl, rfl, _, rfl, ?_⟩
              refine ite2 (fun z => ?_) (fun z => ?_)
              · refine ⟨_, hD, len, fun b o e => by rw [upd_ne (ne_of_none e nD)]; exact s4 _ _ e, ?_⟩
                rw [upd_same, tk]
                have z' : decide (V.str u = V.str "") = true := z
                rw [z', Bool.true_or]
              · have z' : decide (V.str u = V.str "") = false := Bool.eq_false_iff.mpr z
                refine ⟨_, rfl, u, rfl, hz (by omega), uk, fun H5 s5 => ⟨_, s5 _ _ hD, len, fun b o e => by rw [upd_ne (ne_of_none e nD)]; exact s5 _ _ (s4 _ _ e), ?_⟩⟩
                rw [upd_same, tk, z', Bool.false_or]
            · rintro H4 ⟨s4, hD⟩
              rw [List.length_map, List.take_length] at hD
              refine ⟨D, r.map fun q => decide (V.str q = V.str "") || wrB q, rfl, SqL.of (by rw [hD, List.map_map]; rfl), ?_⟩
              have e : (r.map fun q => decide (V.str q = V.str "") || wrB q).all id = r.all fun q => decide (V.str q = V.str "") || wrB q := by rw [List.all_map]; rfl
              rw [e]
              exact q H4 (sL.trans (s2.trans (sS.trans s4)))
    | non => exact absurd (show ("NoneType" : String) = "str" from e) (by decide)
    | bl _ => exact absurd (show ("bool" : String) = "str" from e) (by decide)
    | int _ => exact absurd (show ("int" : String) = "str" from e) (by decide)
    | lst _ _ => exact absurd (show ("list" : String) = "str" from e) (by decide)
    | tup _ _ => exact absurd (show ("tuple" : String) = "str" from e) (by decide)
    | dic _ => exact absurd (show ("dict" : String) = "str" from e) (by decide)
end
end Toy
set_option Elab.async false
set_option linter.all false
set_option maxRecDepth 100000
set_option maxHeartbeats 4000000
namespace Toy
open PySem L2
theorem strD_canLay : ∀ l : List Str, (∀ p ∈ l, PyData.strOk p = true) → PyData.canLayAll0 (l.map PyData.str) = true
  | [], _ => by simp only [List.map_nil, PyData.canLayAll0]
  | c :: r, h => by simp only [List.map_cons, PyData.canLayAll0, PyData.canLay0, h c List.mem_cons_self, strD_canLay r fun x hx => h x (List.mem_cons_of_mem _ hx), Bool.and_self]
theorem strD_depth : ∀ l : List Str, PyData.depthAll (l.map PyData.str) = 0
  | [] => by simp only [List.map_nil, PyData.depthAll]
  | c :: r => by simp only [List.map_cons, PyData.depthAll, PyData.depth, strD_depth r, Nat.max_self]
theorem strD_shaped (l : List Str) (h : ∀ p ∈ l, PyData.strOk p = true) : SeqAt.shaped (.list (l.map PyData.str)) = true := by
  unfold SeqAt.shaped
  have e : (PyData.list (l.map PyData.str)).canLay0 = true := by simp only [PyData.canLay0, strD_canLay l h]
  rw [e, Bool.true_and]
  refine decide_eq_true ?_
  simp only [PyData.depth, strD_depth]
  omega
theorem dp_strD {K : PySem.W.Frag} {H : Hp} : ∀ l : List Str, DpAll K H (l.map V.str) (l.map PyData.str)
  | [] => .nil
  | _ :: r => .cons (.str _) (dp_strD r)
def okP (q : Str) : Bool := decide (V.str q = V.str "") || wrB q
theorem filtP_empty : ∀ r : List Str, ((r.filter fun c => !okP c).map PyData.str).isEmpty = r.all okP
  | [] => rfl
  | c :: r => by
    by_cases h : okP c = true
    · rw [List.filter_cons_of_neg (by rw [h]; decide), List.all_cons, h, Bool.true_and]
      exact filtP_empty r
    · have e : okP c = false := Bool.eq_false_iff.mpr h
      rw [List.filter_cons_of_pos (by rw [e]; rfl), List.all_cons, e]
      rfl
section
variable {P : Program} {w : World} {K : PySem.W.Frag} {mg : Str → Option Value} {base : Heap}
theorem kit_str : ∀ d : PyData, PySem.W.kitOne K (.type (tyD d)) (.type "str") = some (decide (tyD d = "str"))
  | .none => L2.kit_ty (show L2.kitB "NoneType" "str" = some (decide (("NoneType" : String) = "str")) by decide +kernel)
  | .bool _ => L2.kit_ty (show L2.kitB "bool" "str" = some (decide (("bool" : String) = "str")) by decide +kernel)
  | .int _ => L2.kit_ty (show L2.kitB "int" "str" = some (decide (("int" : String) = "str")) by decide +kernel)
  | .str _ => L2.kit_ty (show L2.kitB "str" "str" = some (decide (("str" : String) = "str")) by decide +kernel)
  | .list _ => L2.kit_ty (show L2.kitB "list" "str" = some (decide (("list" : String) = "str")) by decide +kernel)
  | .tuple _ => L2.kit_ty (show L2.kitB "tuple" "str" = some (decide (("tuple" : String) = "str")) by decide +kernel)
  | .dict _ => L2.kit_ty (show L2.kitB "dict" "str" = some (decide (("dict" : String) = "str")) by decide +kernel)
theorem kit_tup : ∀ d : PyData, PySem.W.kitOne K (.type (tyD d)) (.type "tuple") = some (decide (tyD d = "tuple"))
  | .none => L2.kit_ty (show L2.kitB "NoneType" "tuple" = some (decide (("NoneType" : String) = "tuple")) by decide +kernel)
  | .bool _ => L2.kit_ty (show L2.kitB "bool" "tuple" = some (decide (("bool" : String) = "tuple")) by decide +kernel)
  | .int _ => L2.kit_ty (show L2.kitB "int" "tuple" = some (decide (("int" : String) = "tuple")) by decide +kernel)
  | .str _ => L2.kit_ty (show L2.kitB "str" "tuple" = some (decide (("str" : String) = "tuple")) by decide +kernel)
  | .list _ => L2.kit_ty (show L2.kitB "list" "tuple" = some (decide (("list" : String) = "tuple")) by decide +kernel)
  | .tuple _ => L2.kit_ty (show L2.kitB "tuple" "tuple" = some (decide (("tuple" : String) = "tuple")) by decide +kernel)
  | .dict _ => L2.kit_ty (show L2.kitB "dict" "tuple" = some (decide (("dict" : String) = "tuple")) by decide +kernel)
end
end Toy
set_option Elab.async false
set_option linter.all false
set_option maxRecDepth 100000
set_option maxHeartbeats 4000000
namespace Toy
open PySem L2
abbrev sAmong : Stmt := top 18
def w3 (w : Str) : Bool := inV (.str w) [.str "thing", .str "none", .str "unit"]
def w2 (w : Str) : Bool := inV (.str w) [.str "pair", .str "either"]
def w1 (w : Str) : Bool := decide (V.str w = V.str "name")
/-- what should be kinds within a thing; none for what has no kind's form -/
def inner : PyData → Option (List PyData)
  | .tuple [.str w] => if w3 w = true then some [] else none
  | .tuple [.str w, d] => if (w1 w && nmB d) = true then some [] else none
  | .tuple [.str w, a, b] => if w2 w = true then some [a, b] else none
  | _ => none
/-- the data lies in G, the tuple in H -/
def KaRes (K : PySem.W.Frag) (G H : Hp) (u : V) : Option (List PyData) → Prop
  | none => u = .non
  | some ds => ∃ a xs, u = .ref a ∧ SqT K H a xs ∧ DqAll K G xs ds
def spKa (K : PySem.W.Frag) : Sp := fun vs H Q _ => ∃ (v : V) (d : PyData) (G : Hp), vs = [v] ∧ Same G H ∧ Dq K G v d ∧ txtB d = true ∧ ∀ u H', Same H H' → KaRes K G H' u (inner d) → Q u H'
structure Nu (mg : Str → Option Value) : Prop where
  tuple : mg "tuple" = none
theorem num_eq {n : Nat} {i : Int} (h : decide (V.int (n : Int) = V.int i) = true) : (n : Int) = i := by
  have z := of_decide_eq_true h
  injection z
theorem num_ne {n : Nat} {i : Int} (h : ¬ decide (V.int (n : Int) = V.int i) = true) : (n : Int) ≠ i := fun e => h (by rw [e]; exact decide_eq_true rfl)
theorem tup_of {d : PyData} (h : tyD d = "tuple") : ∃ ds, d = .tuple ds := by
  cases d with
  | tuple ds => exact ⟨ds, rfl⟩
  | none => exact absurd (show ("NoneType" : String) = "tuple" from h) (by decide)
  | bool _ => exact absurd (show ("bool" : String) = "tuple" from h) (by decide)
  | int _ => exact absurd (show ("int" : String) = "tuple" from h) (by decide)
  | str _ => exact absurd (show ("str" : String) = "tuple" from h) (by decide)
  | list _ => exact absurd (show ("list" : String) = "tuple" from h) (by decide)
  | dict _ => exact absurd (show ("dict" : String) = "tuple" from h) (by decide)
theorem str_of {d : PyData} (h : tyD d = "str") : ∃ x, d = .str x := by
  cases d with
  | str x => exact ⟨x, rfl⟩
  | none => exact absurd (show ("NoneType" : String) = "str" from h) (by decide)
  | bool _ => exact absurd (show ("bool" : String) = "str" from h) (by decide)
  | int _ => exact absurd (show ("int" : String) = "str" from h) (by decide)
  | tuple _ => exact absurd (show ("tuple" : String) = "str" from h) (by decide)
  | list _ => exact absurd (show ("list" : String) = "str" from h) (by decide)
  | dict _ => exact absurd (show ("dict" : String) = "str" from h) (by decide)
theorem inner_ty {d : PyData} (h : tyD d ≠ "tuple") : inner d = none := by
  cases d <;> first | rfl | exact absurd rfl h
theorem inner_hd {d : PyData} {r : List PyData} (h : tyD d ≠ "str") : inner (.tuple (d :: r)) = none := by
  cases d <;> first | rfl | exact absurd rfl h | (rcases r with _ | ⟨_, _ | ⟨_, _ | ⟨_, _⟩⟩⟩ <;> rfl)
theorem notT {s t : String} (h : (!decide (s = t)) = true) : s ≠ t := fun z => by rw [decide_eq_true z] at h; cases h
theorem isT {s t : String} (h : ¬ (!decide (s = t)) = true) : s = t := by
  by_cases z : s = t
  · exact z
  · exact absurd (show (!decide (s = t)) = true by rw [decide_eq_false z]; rfl) h
section
variable {P : Program} {w : World} {K : PySem.W.Frag} {mg : Str → Option Value} {base : Heap}
theorem dq_tuple {H : Hp} {v : V} {l : List PyData} (h : Dq K H v (.tuple l)) : ∃ a xs, v = .ref a ∧ SqT K H a xs ∧ DqAll K H xs l := by
  cases h with
  | tup h a => exact ⟨_, _, rfl, h.seqT, a⟩
theorem dq_tupleP {H : Hp} {v : V} {l : List PyData} (h : Dq K H v (.tuple l)) : ∃ a xs, v = .ref a ∧ SqP K H a xs ∧ DqAll K H xs l := by
  cases h with
  | tup h a => exact ⟨_, _, rfl, h, a⟩
theorem dq_str {H : Hp} {v : V} {x : Str} (h : Dq K H v (.str x)) : v = .str x := by
  cases h
  rfl
theorem dqAll_nil {H : Hp} {xs : List V} (h : DqAll K H xs []) : xs = [] := by
  cases h
  rfl
theorem dqAll_cons {H : Hp} {xs : List V} {d : PyData} {r : List PyData} (h : DqAll K H xs (d :: r)) : ∃ x rs, xs = x :: rs ∧ Dq K H x d ∧ DqAll K H rs r := by
  cases h with
  | cons a b => exact ⟨_, _, rfl, a, b⟩
theorem scKA : FnScope ["part", "word"] ["part"] (defScope sAmong) := ⟨rfl, rfl, rfl, by decide +kernel, rfl, by decide +kernel, by decide +kernel⟩
theorem ok_among {f g : Addr} {fd gd : FuncData} (F : Fun K "kinds_among" "kinds_among" sAmong f fd) (T : Nk mg) (U : Nt mg) (N : Nu mg) (G : Gv P w K mg base 2 "is_name" g gd ["value"] (spNm K)) : FnOk P w K mg base CX0 3 f fd ["part"] (spKa K) := by
  refine F.ok scKA (fun vs H Q E h => ?_) (fun cdv A outer s H vs Q E hr h => ?_)
  · obtain ⟨v, d, G, rfl, _⟩ := h
    rfl
  obtain ⟨v, d, G0, rfl, sG, hd, ht, q⟩ := h
  refine ⟨_, pss_cons (ps_if (PW.pt (pw_or (pt_cmpR op_neTy (pe_callTy call_tyD rfl U.type (by decide +kernel) (pa_cons (pv 0) pa_nil)) (pe_bltn (v := .ty "tuple") rfl N.tuple (by decide +kernel) rfl (by decide) (by decide)) (nomark _))
      (pw_or (pt_cmpR op_eq (pe_callB call_len_seq rfl T.len PySem.boot_len (pa_cons (pv 0) pa_nil)) pe_int (nomark _))
      (pw_or1 (pt_cmpR op_neTy (pe_callTy call_tyD rfl U.type (by decide +kernel) (pa_cons (pe_ix ix_tup (pv 0) pe_int (fun _ _ => rfl)) pa_nil)) (pe_bltn (v := .ty "str") rfl U.str (by decide +kernel) rfl (by decide) (by decide)) (nomark _)))))) (pss_one (ps_ret pe_non)) pss_nil)
    (pss_cons (ps_set (i := 1) scKA.nd rfl (.inl rfl) (pe_ix ix_tup (pv 0) pe_int (fun _ _ => rfl)))
    (pss_cons (ps_if (PW.pt (pw_and (pt_cmpR op_eq (pe_callB call_len_seq rfl T.len PySem.boot_len (pa_cons (pv 0) pa_nil)) pe_int (nomark _)) (pw_and1 (pt_cmpR op_in_seq (pv 1) (pe_tup (pa_cons pe_str (pa_cons pe_str (pa_cons pe_str pa_nil)))) (by rfl))))) (pss_one (ps_ret (pe_tup pa_nil))) pss_nil)
    (pss_cons (ps_if (PW.pt (pw_and (pt_cmpR op_eq (pe_callB call_len_seq rfl T.len PySem.boot_len (pa_cons (pv 0) pa_nil)) pe_int (nomark _)) (pw_and (pt_cmpR op_eq (pv 1) pe_str (nomark _)) (pw_and1 (pt_val (pe_call G.ok hr rfl G.m G.k G.b .nil pass0 (pa_cons (pe_ix ix_tup (pv 0) pe_int (fun _ _ => rfl)) pa_nil))))))) (pss_one (ps_ret (pe_tup pa_nil))) pss_nil)
    (pss_cons (ps_if (PW.pt (pw_and (pt_cmpR op_eq (pe_callB call_len_seq rfl T.len PySem.boot_len (pa_cons (pv 0) pa_nil)) pe_int (nomark _)) (pw_and1 (pt_cmpR op_in_seq (pv 1) (pe_tup (pa_cons pe_str (pa_cons pe_str pa_nil))) (by rfl))))) (pss_one (ps_ret (pe_slice sl_tup (pv 0) (po_some pe_int) po_none))) pss_nil)
    (pss_one (ps_ret pe_non)))))), ?_⟩
  have z3 : ∀ {k : Nat}, k ≤ 20 → k ≤ sizeLine := fun h => Nat.le_trans h (by decide)
  refine ⟨_, rfl, _, d, rfl, Dq.mono sG _ _ hd, d, "tuple", rfl, rfl, TypeEq.meta_tuple, _, rfl, ?_⟩
  refine ite2 (fun h => ?_) (fun h => ?_)
  · exact q .non H (Same.refl H) (by rw [inner_ty (notT h)]; rfl)
  obtain ⟨ds, rfl⟩ := tup_of (isT h)
  obtain ⟨a, xs, rfl, hxG, hA⟩ := dq_tuple hd
  have hx := sG.seqT hxG
  refine ⟨_, rfl, a, _, rfl, .inr hx, rfl, _, rfl, ?_⟩
  rcases ds with _ | ⟨d0, r⟩
  · obtain rfl := dqAll_nil hA
    exact iteT (q .non H (Same.refl H) rfl)
  · obtain ⟨x0, rs, rfl, h0, hR⟩ := dqAll_cons hA
    refine ite2 (fun g => absurd (num_eq g) (by simp only [List.length_cons]; omega)) (fun _ => ?_)
    refine ⟨_, rfl, a, _, 0, x0, rfl, rfl, hx, atI_nat (j := 0) rfl, x0, d0, rfl, Dq.mono sG _ _ h0, d0, "str", rfl, rfl, TypeEq.meta_str, _, rfl, ?_⟩
    refine ite2 (fun g => ?_) (fun g => ?_)
    · exact q .non H (Same.refl H) (by rw [inner_hd (notT g)]; rfl)
    obtain ⟨w, rfl⟩ := str_of (isT g)
    obtain rfl := dq_str h0
    refine ⟨_, rfl, a, _, 0, _, rfl, rfl, hx, atI_nat (j := 0) rfl, ?_⟩
    rcases r with _ | ⟨d1, _ | ⟨d2, _ | ⟨d3, r⟩⟩⟩
    · obtain rfl := dqAll_nil hR
      refine ⟨_, rfl, a, _, rfl, .inr hx, rfl, _, rfl, ?_⟩
      refine ite2 (fun _ => ?_) (fun g => absurd rfl (num_ne (n := 1) g))
      refine ⟨_, rfl, z3 (by show 3 ≤ 20; decide), fun t ht' => ⟨t, _, rfl, .inr (SqT.of upd_same), rfl, rfl, _, rfl, ?_⟩⟩
      have s1 := same_new ht' (.tup [.str "thing", .str "none", .str "unit"])
      refine ite2 (fun g => ?_) (fun g => ?_)
      · refine ⟨z3 (by show 0 ≤ 20; decide), fun p hp => ?_⟩
        exact q _ _ (s1.trans (same_new hp (.tup []))) (by show KaRes K _ _ _ (if w3 w = true then some [] else none); rw [if_pos (show w3 w = true from g)]; exact ⟨p, [], rfl, SqT.of upd_same, .nil⟩)
      · refine ⟨_, rfl, a, _, rfl, .inr (s1.seqT hx), rfl, _, rfl, ?_⟩
        refine ite2 (fun z => absurd (num_eq (n := 1) z) (by decide)) (fun _ => iteF ?_)
        refine ⟨_, rfl, a, _, rfl, .inr (s1.seqT hx), rfl, _, rfl, ?_⟩
        refine ite2 (fun z => absurd (num_eq (n := 1) z) (by decide)) (fun _ => iteF ?_)
        exact q .non _ s1 (by show KaRes K _ _ _ (if w3 w = true then some [] else none); rw [if_neg (show ¬ w3 w = true from g)]; rfl)
    · obtain ⟨x1, rs, rfl, h1, hR⟩ := dqAll_cons hR
      obtain rfl := dqAll_nil hR
      refine ⟨_, rfl, a, _, rfl, .inr hx, rfl, _, rfl, ?_⟩
      refine ite2 (fun z => absurd (num_eq (n := 2) z) (by decide)) (fun _ => iteF ?_)
      refine ⟨_, rfl, a, _, rfl, .inr hx, rfl, _, rfl, ?_⟩
      refine ite2 (fun _ => ?_) (fun g => absurd rfl (num_ne (n := 2) g))
      have rest : ∀ {H'}, Same H H' → (inner (.tuple [.str w, d1]) = none) → _ := fun {H'} s' e => q .non H' s' (by rw [e]; rfl)
      refine ⟨_, rfl, rfl, _, rfl, ?_⟩
      refine ite2 (fun g1 => ?_) (fun g1 => ?_)
      · refine ⟨_, rfl, a, _, 1, x1, rfl, rfl, hx, atI_nat (j := 1) rfl, x1, d1, rfl, Dq.mono sG _ _ h1, ?_, fun H' s' => ⟨_, rfl, ?_⟩⟩
        · have t2 : (txtB (.str w) && (txtB d1 && true)) = true := ht
          simp only [Bool.and_eq_true] at t2
          exact t2.2.1
        have e1 : w1 w = true := g1
        cases hn : nmB d1 with
        | true =>
          refine iteT ⟨z3 (by show 0 ≤ 20; decide), fun p hp => ?_⟩
          exact q _ _ (s'.trans (same_new hp (.tup []))) (by show KaRes K _ _ _ (if (w1 w && nmB d1) = true then some [] else none); rw [e1, hn]; exact ⟨p, [], rfl, SqT.of upd_same, .nil⟩)
        | false =>
          refine iteF ⟨_, rfl, a, _, rfl, .inr (s'.seqT hx), rfl, _, rfl, ?_⟩
          refine ite2 (fun z => absurd (num_eq (n := 2) z) (by decide)) (fun _ => iteF ?_)
          exact rest s' (by show (if (w1 w && nmB d1) = true then some [] else none) = none; rw [e1, hn]; rfl)
      · have e1 : w1 w = false := Bool.eq_false_iff.mpr g1
        refine iteF ⟨_, rfl, a, _, rfl, .inr hx, rfl, _, rfl, ?_⟩
        refine ite2 (fun z => absurd (num_eq (n := 2) z) (by decide)) (fun _ => iteF ?_)
        exact rest (Same.refl H) (by show (if (w1 w && nmB d1) = true then some [] else none) = none; rw [e1]; rfl)
    · obtain ⟨x1, rs, rfl, h1, hR1⟩ := dqAll_cons hR
      obtain ⟨x2, rs, rfl, h2, hR2⟩ := dqAll_cons hR1
      obtain rfl := dqAll_nil hR2
      refine ⟨_, rfl, a, _, rfl, .inr hx, rfl, _, rfl, ?_⟩
      refine ite2 (fun z => absurd (num_eq (n := 3) z) (by decide)) (fun _ => iteF ?_)
      refine ⟨_, rfl, a, _, rfl, .inr hx, rfl, _, rfl, ?_⟩
      refine ite2 (fun z => absurd (num_eq (n := 3) z) (by decide)) (fun _ => iteF ?_)
      refine ⟨_, rfl, a, _, rfl, .inr hx, rfl, _, rfl, ?_⟩
      refine ite2 (fun _ => ?_) (fun g => absurd rfl (num_ne (n := 3) g))
      refine ⟨_, rfl, z3 (by show 2 ≤ 20; decide), fun t ht' => ⟨t, _, rfl, .inr (SqT.of upd_same), rfl, rfl, _, rfl, ?_⟩⟩
      have s1 := same_new ht' (.tup [.str "pair", .str "either"])
      refine ite2 (fun g => ?_) (fun g => ?_)
      · refine ⟨_, rfl, _, rfl, a, _, rfl, s1.seqT hx, (fun z => absurd (show (1 : Nat) = 0 from z.1) (by decide)), fun p hp => ?_⟩
        have s2 := same_new hp (.tup (cutV [.str w, x1, x2] (some 1) none))
        exact q _ _ (s1.trans s2) (by show KaRes K _ _ _ (if w2 w = true then some [d1, d2] else none); rw [if_pos (show w2 w = true from g)]; exact ⟨p, [x1, x2], rfl, SqT.of (by rw [upd_same, cutV_tail]; rfl), hR⟩)
      · exact q .non _ s1 (by show KaRes K _ _ _ (if w2 w = true then some [d1, d2] else none); rw [if_neg (show ¬ w2 w = true from g)]; rfl)
    · obtain ⟨x1, rs, rfl, h1, hR1⟩ := dqAll_cons hR
      obtain ⟨x2, rs, rfl, h2, hR2⟩ := dqAll_cons hR1
      obtain ⟨x3, rs, rfl, h3, hR3⟩ := dqAll_cons hR2
      have ne : ∀ {i : Int}, i ≤ 3 → ¬ decide (V.int (((V.str w :: x1 :: x2 :: x3 :: rs).length : Nat) : Int) = V.int i) = true := fun {i} hi z => by
        have := num_eq z
        simp only [List.length_cons] at this
        omega
      refine ⟨_, rfl, a, _, rfl, .inr hx, rfl, _, rfl, ?_⟩
      refine ite2 (fun z => absurd z (ne (by decide))) (fun _ => iteF ?_)
      refine ⟨_, rfl, a, _, rfl, .inr hx, rfl, _, rfl, ?_⟩
      refine ite2 (fun z => absurd z (ne (by decide))) (fun _ => iteF ?_)
      refine ⟨_, rfl, a, _, rfl, .inr hx, rfl, _, rfl, ?_⟩
      refine ite2 (fun z => absurd z (ne (by decide))) (fun _ => iteF ?_)
      exact q .non H (Same.refl H) rfl
end
end Toy
set_option Elab.async false
set_option linter.all false
set_option maxRecDepth 100000
set_option maxHeartbeats 4000000
namespace Toy
open PySem L2
def headB : PyData → Nat → List Str → Bool
  | .tuple (.str w :: r), n, ws => decide (r.length + 1 = n) && inV (.str w) (ws.map V.str)
  | _, _, _ => false
def spHd (K : PySem.W.Frag) : Sp := fun vs H Q _ => ∃ (v : V) (d : PyData) (n : Nat) (t : Addr) (ws : List Str), vs = [v, .int n, .ref t] ∧ Dq K H v d ∧ 1 ≤ n ∧ SqT K H t (ws.map V.str) ∧ Q (.bl (headB d n ws)) H
theorem head_ty {d : PyData} {n : Nat} {ws : List Str} (h : tyD d ≠ "tuple") : headB d n ws = false := by
  cases d <;> first | rfl | exact absurd rfl h
theorem head_hd {d : PyData} {r : List PyData} {n : Nat} {ws : List Str} (h : tyD d ≠ "str") : headB (.tuple (d :: r)) n ws = false := by
  cases d <;> first | rfl | exact absurd rfl h
theorem strs_flat : ∀ ws : List Str, (ws.map V.str).all flatV = true
  | [] => rfl
  | _ :: r => by rw [List.map_cons, List.all_cons, strs_flat r] <;> rfl
section
variable {P : Program} {w : World} {K : PySem.W.Frag} {mg : Str → Option Value} {base : Heap}
end
end Toy
set_option Elab.async false
set_option linter.all false
set_option maxRecDepth 100000
set_option maxHeartbeats 2000000
namespace Toy
open PySem L2
abbrev L3 : List Str := ["thing", "none", "unit"]
abbrev L2w : List Str := ["pair", "either"]
abbrev L1 : List Str := ["name"]
def both (f : PyData → Bool) : PyData → Bool
  | .tuple [_, a, b] => f a && f b
  | _ => false
def named : PyData → Bool
  | .tuple [_, x] => nmB x
  | _ => false
/-- the form of a kind, so deep at most -/
def fB : Nat → PyData → Bool
  | 0, _ => false
  | n + 1, d => headB d 1 L3 || (if headB d 3 L2w = true then both (fB n) d else headB d 2 L1 && named d)
def spFm (K : PySem.W.Frag) (n : Nat) : Sp := fun vs H Q _ => ∃ (v : V) (d : PyData), vs = [v] ∧ Dq K H v d ∧ txtB d = true ∧ d.depth ≤ n ∧ ∀ H', Same H H' → Q (.bl (fB n d)) H'
theorem head_form {d : PyData} {n : Nat} {ws : List Str} (h : headB d n ws = true) : ∃ w r, d = .tuple (.str w :: r) ∧ r.length + 1 = n := by
  cases d with
  | tuple ds =>
    rcases ds with _ | ⟨d0, r⟩
    · cases h
    · cases d0 with
      | str w =>
        have z : (decide (r.length + 1 = n) && inV (.str w) (ws.map V.str)) = true := h
        simp only [Bool.and_eq_true, decide_eq_true_eq] at z
        exact ⟨w, r, rfl, z.1⟩
      | _ => cases h
  | _ => cases h
theorem head_zero {d : PyData} {n : Nat} {ws : List Str} (h : d.depth ≤ 0) : headB d n ws = false := by
  cases e : headB d n ws with
  | false => rfl
  | true =>
    obtain ⟨w, r, rfl, _⟩ := head_form e
    simp only [PyData.depth] at h
    omega
section
variable {P : Program} {w : World} {K : PySem.W.Frag} {mg : Str → Option Value} {base : Heap}
theorem depth_two {w : Str} {a b : PyData} {n : Nat} (h : (PyData.tuple [.str w, a, b]).depth ≤ n + 1) : a.depth ≤ n ∧ b.depth ≤ n := by
  simp only [PyData.depth, PyData.depthAll] at h
  omega
theorem none_leftF {f : Addr} {fd : FuncData} {k : Nat} : FnOk P w K mg base CX0 k f fd ["thing"] (fun _ _ _ _ => False) := ⟨fun _ _ _ _ h => h.elim, fun _ _ _ _ _ _ _ _ _ _ _ _ _ h => h.elim⟩
end
end Toy
set_option Elab.async false
set_option linter.all false
set_option maxRecDepth 100000
set_option maxHeartbeats 2000000
namespace Toy
open PySem L2
def nameOf : PyData → List Str
  | .tuple [_, .str x] => [x]
  | _ => []
def kids : PyData → Option (PyData × PyData)
  | .tuple [_, a, b] => some (a, b)
  | _ => none
def two (x y : Nat × Nat × List Str) : Nat × Nat × List Str := (max x.1 y.1 + 1, x.2.1 + y.2.1 + 1, x.2.2 ++ y.2.2)
/-- how deep, how many parts, the names -/
def ms : Nat → PyData → Nat × Nat × List Str
  | 0, _ => (1, 1, [])
  | n + 1, d => match kids d with
    | some (a, b) => two (ms n a) (ms n b)
    | none => (1, 1, nameOf d)
theorem ms_names : ∀ (n : Nat) (d : PyData), (ms n d).2.2.length ≤ (ms n d).2.1
  | 0, _ => Nat.zero_le _
  | n + 1, d => by
    show (match kids d with | some (a, b) => two (ms n a) (ms n b) | none => (1, 1, nameOf d)).2.2.length ≤ (match kids d with | some (a, b) => two (ms n a) (ms n b) | none => (1, 1, nameOf d)).2.1
    cases kids d with
    | none =>
      show (nameOf d).length ≤ 1
      unfold nameOf
      split
      · exact Nat.le_refl 1
      · exact Nat.zero_le _
    | some p =>
      obtain ⟨a, b⟩ := p
      show ((ms n a).2.2 ++ (ms n b).2.2).length ≤ (ms n a).2.1 + (ms n b).2.1 + 1
      rw [List.length_append]
      have h1 := ms_names n a
      have h2 := ms_names n b
      omega
def MsAt (H : Hp) (p : Addr) (m : Nat × Nat × List Str) : Prop := ∃ l, H p = some (.tup [.int (m.1 : Nat), .int (m.2.1 : Nat), .ref l]) ∧ H l = some (.lst (m.2.2.map V.str))
theorem MsAt.mono {H H' : Hp} {p : Addr} {m : Nat × Nat × List Str} (e : Same H H') (h : MsAt H p m) : MsAt H' p m := let ⟨l, a, b⟩ := h; ⟨l, e _ _ a, e _ _ b⟩
def spMs (K : PySem.W.Frag) (n : Nat) : Sp := fun vs H Q _ => ∃ (v : V) (d : PyData), vs = [v] ∧ Dq K H v d ∧ fB n d = true ∧ (ms n d).2.1 ≤ 1000000 ∧ ∀ p H', Same H H' → MsAt H' p (ms n d) → Q (.ref p) H'
theorem fB_ways {n : Nat} {d : PyData} (h : fB (n + 1) d = true) : (∃ w, d = .tuple [.str w] ∧ w2 w = false ∧ w1 w = false) ∨ (∃ w x, d = .tuple [.str w, .str x] ∧ w2 w = false ∧ w1 w = true) ∨ ∃ w a b, d = .tuple [.str w, a, b] ∧ w2 w = true ∧ fB n a = true ∧ fB n b = true := by
  have e : (headB d 1 L3 || (if headB d 3 L2w = true then both (fB n) d else headB d 2 L1 && named d)) = true := h
  have fl : ∀ w : Str, inV (.str w) ((["name"] : List Str).map V.str) = true → w = "name" := fun w z => by
    have z' : (eqV (.str "name") (.str w) || false) = true := z
    rw [Bool.or_false] at z'
    have z2 : (("name" : Str) == w) = true := z'
    exact (eq_of_beq z2).symm
  cases h1 : headB d 1 L3 with
  | true =>
    obtain ⟨w, r, rfl, hl⟩ := head_form h1
    obtain rfl : r = [] := List.length_eq_zero_iff.mp (by omega)
    have hw : inV (.str w) (L3.map V.str) = true := by
      have z : (decide (([] : List PyData).length + 1 = 1) && inV (.str w) (L3.map V.str)) = true := h1
      rw [Bool.and_eq_true] at z
      exact z.2
    have cs : w = "thing" ∨ w = "none" ∨ w = "unit" := by
      have z : ((("thing" : Str) == w) || ((("none" : Str) == w) || ((("unit" : Str) == w) || false))) = true := hw
      simp only [Bool.or_eq_true, Bool.or_false] at z
      rcases z with z | z | z
      · exact .inl (eq_of_beq z).symm
      · exact .inr (.inl (eq_of_beq z).symm)
      · exact .inr (.inr (eq_of_beq z).symm)
    refine .inl ⟨w, rfl, ?_⟩
    rcases cs with rfl | rfl | rfl <;> exact ⟨by decide +kernel, by decide +kernel⟩
  | false =>
    rw [h1, Bool.false_or] at e
    cases h3 : headB d 3 L2w with
    | true =>
      rw [h3, if_pos rfl] at e
      obtain ⟨w, r, rfl, hl⟩ := head_form h3
      rcases r with _ | ⟨a, _ | ⟨b, _ | ⟨c, r⟩⟩⟩
      · cases hl
      · cases hl
      · have e' : (fB n a && fB n b) = true := e
        rw [Bool.and_eq_true] at e'
        have hw : w2 w = true := by
          have z : (decide (([a, b] : List PyData).length + 1 = 3) && inV (.str w) (L2w.map V.str)) = true := h3
          rw [Bool.and_eq_true] at z
          exact z.2
        exact .inr (.inr ⟨w, a, b, rfl, hw, e'.1, e'.2⟩)
      · simp only [List.length_cons] at hl
        omega
    | false =>
      rw [h3, if_neg Bool.false_ne_true, Bool.and_eq_true] at e
      obtain ⟨w, r, rfl, hl⟩ := head_form e.1
      rcases r with _ | ⟨a, _ | ⟨b, r⟩⟩
      · cases hl
      · have hn : nmB a = true := e.2
        have hw : w = "name" := fl w (by
          have z : (decide (([a] : List PyData).length + 1 = 2) && inV (.str w) (L1.map V.str)) = true := e.1
          rw [Bool.and_eq_true] at z
          exact z.2)
        subst hw
        cases a with
        | str x => exact .inr (.inl ⟨_, x, rfl, by decide +kernel, by decide +kernel⟩)
        | _ => cases hn
      · simp only [List.length_cons] at hl
        omega
end Toy
set_option Elab.async false
set_option linter.all false
set_option maxRecDepth 100000
set_option maxHeartbeats 2000000
namespace Toy
open PySem L2
structure Nx (mg : Str → Option Value) : Prop where
  max : mg "max" = none
theorem max_int (i j : Nat) : (if ((j : Nat) : Int) > ((i : Nat) : Int) then ((j : Nat) : Int) else ((i : Nat) : Int)) = ((max i j : Nat) : Int) := by
  by_cases h : ((j : Nat) : Int) > ((i : Nat) : Int)
  · rw [if_pos h]; omega
  · rw [if_neg h]; omega
section
variable {P : Program} {w : World} {K : PySem.W.Frag} {mg : Str → Option Value} {base : Heap}
theorem none_leftM {f : Addr} {fd : FuncData} {k : Nat} : FnOk P w K mg base CX0 k f fd ["kind"] (fun _ _ _ _ => False) := ⟨fun _ _ _ _ h => h.elim, fun _ _ _ _ _ _ _ _ _ _ _ _ _ h => h.elim⟩
end
end Toy
set_option Elab.async false
set_option linter.all false
set_option maxRecDepth 100000
set_option maxHeartbeats 2000000
namespace Toy
open PySem L2
/-- a KIND: its form, so deep, so many parts -/
def kdB (n : Nat) (d : PyData) : Bool := fB n d && (decide ((ms n d).1 ≤ 30) && decide ((ms n d).2.1 ≤ 2000))
def spKd (K : PySem.W.Frag) (n : Nat) : Sp := fun vs H Q _ => ∃ (v : V) (d : PyData), vs = [v] ∧ Dq K H v d ∧ txtB d = true ∧ d.depth ≤ n ∧ (ms n d).2.1 ≤ 1000000 ∧ ∀ H', Same H H' → Q (.bl (kdB n d)) H'
section
variable {P : Program} {w : World} {K : PySem.W.Frag} {mg : Str → Option Value} {base : Heap}
end
end Toy
set_option Elab.async false
set_option linter.all false
set_option maxRecDepth 100000
set_option maxHeartbeats 1000000
namespace Toy
open PySem L2
abbrev sFound : Stmt := top 17
/-- the search: what waits (the last one first), what is found -/
def pf : Nat → List (PyData × Nat) → List (PyData × Nat) → Option (List (PyData × Nat))
  | _, [], fd => some fd
  | 0, _ :: _, _ => none
  | n + 1, (d, k) :: st, fd => match inner d with
    | none => none
    | some ds => if 30 < k then none else pf n ((ds.map fun x => (x, k + 1)).reverse ++ st) (fd ++ [(d, k)])
def Row (K : PySem.W.Frag) (G H : Hp) (v : V) (p : PyData × Nat) : Prop := ∃ t x, v = .ref t ∧ H t = some (.tup [x, .int (p.2 : Nat)]) ∧ Dq K G x p.1 ∧ txtB p.1 = true
def Rows (K : PySem.W.Frag) (G H : Hp) : List V → List (PyData × Nat) → Prop
  | [], [] => True
  | v :: vs, p :: ps => Row K G H v p ∧ Rows K G H vs ps
  | _, _ => False
theorem Row.keep {K : PySem.W.Frag} {G H H' : Hp} {v : V} {p : PyData × Nat} (e : ∀ b xs, H b = some (.tup xs) → H' b = some (.tup xs)) (h : Row K G H v p) : Row K G H' v p := let ⟨t, x, a, b, c⟩ := h; ⟨t, x, a, e _ _ b, c⟩
theorem Rows.keep {K : PySem.W.Frag} {G H H' : Hp} (e : ∀ b xs, H b = some (.tup xs) → H' b = some (.tup xs)) : ∀ {vs : List V} {ps : List (PyData × Nat)}, Rows K G H vs ps → Rows K G H' vs ps
  | [], [], _ => trivial
  | _ :: _, _ :: _, h => ⟨h.1.keep e, Rows.keep e h.2⟩
  | [], _ :: _, h => h.elim
  | _ :: _, [], h => h.elim
theorem Rows.len {K : PySem.W.Frag} {G H : Hp} : ∀ {vs : List V} {ps : List (PyData × Nat)}, Rows K G H vs ps → vs.length = ps.length
  | [], [], _ => rfl
  | _ :: _, _ :: _, h => congrArg Nat.succ h.2.len
  | [], _ :: _, h => h.elim
  | _ :: _, [], h => h.elim
theorem Rows.app {K : PySem.W.Frag} {G H : Hp} : ∀ {vs ws : List V} {ps qs : List (PyData × Nat)}, Rows K G H vs ps → Rows K G H ws qs → Rows K G H (vs ++ ws) (ps ++ qs)
  | [], _, [], _, _, s => s
  | _ :: _, _, _ :: _, _, h, s => ⟨h.1, h.2.app s⟩
  | [], _, _ :: _, _, h, _ => h.elim
  | _ :: _, _, [], _, h, _ => h.elim
theorem Rows.rev {K : PySem.W.Frag} {G H : Hp} : ∀ {vs : List V} {ps : List (PyData × Nat)}, Rows K G H vs ps → Rows K G H vs.reverse ps.reverse
  | [], [], _ => trivial
  | v :: vs, p :: ps, h => by
    rw [List.reverse_cons, List.reverse_cons]
    exact h.2.rev.app ⟨h.1, trivial⟩
  | [], _ :: _, h => h.elim
  | _ :: _, [], h => h.elim
/-- what the search tells -/
def PfRes (K : PySem.W.Frag) (G H : Hp) (u : V) : Option (List (PyData × Nat)) → Prop
  | none => u = .non
  | some fd => ∃ l fs, u = .ref l ∧ H l = some (.lst fs) ∧ Rows K G H fs fd
def spPf (K : PySem.W.Frag) : Sp := fun vs H Q _ => ∃ (v : V) (d : PyData) (G : Hp), vs = [v] ∧ Same G H ∧ Dq K G v d ∧ txtB d = true ∧ ∀ u H', Same H H' → PfRes K G H' u (pf 2000 [(d, 1)] []) → Q u H'
theorem inner_txt {d : PyData} {ds : List PyData} (h : inner d = some ds) (t : txtB d = true) : ∀ x ∈ ds, txtB x = true := by
  unfold inner at h
  split at h
  · split at h
    · cases h; exact fun _ m => nomatch m
    · cases h
  · split at h
    · cases h; exact fun _ m => nomatch m
    · cases h
  · split at h
    · cases h
      rename_i a b _
      have tt : (txtB (.str _) && (txtB a && (txtB b && true))) = true := t
      simp only [Bool.and_eq_true] at tt
      intro x m
      rcases List.mem_cons.mp m with rfl | m
      · exact tt.2.1
      · rw [List.mem_singleton.mp m]; exact tt.2.2.1
    · cases h
  · cases h
end Toy
set_option Elab.async false
set_option linter.all false
set_option maxRecDepth 100000
set_option maxHeartbeats 1000000
namespace Toy
open PySem L2
structure Np (mg : Str → Option Value) : Prop where
  deep : ∃ t, mg "DEEPEST" = some (.int 30 t)
  most : ∃ t, mg "MOST_PARTS" = some (.int 2000 t)
theorem keep_same {H H' : Hp} (e : Same H H') : ∀ b xs, H b = some (.tup xs) → H' b = some (.tup xs) := fun b xs h => e _ _ h
theorem keep_upd {H : Hp} {w : Addr} {ws zs : List V} (h : H w = some (.lst ws)) : ∀ b xs, H b = some (.tup xs) → upd H w (.lst zs) b = some (.tup xs) := fun b xs e => by
  rw [upd_ne (fun z => by rw [z, h] at e; cases e)]
  exact e
theorem rows_cons_inv {K : PySem.W.Frag} {G H : Hp} {vs : List V} {p : PyData × Nat} {ps : List (PyData × Nat)} (h : Rows K G H vs (p :: ps)) : ∃ v r, vs = v :: r ∧ Row K G H v p ∧ Rows K G H r ps := by
  cases vs with
  | nil => exact h.elim
  | cons v r => exact ⟨v, r, rfl, h.1, h.2⟩
theorem rows_nil_inv {K : PySem.W.Frag} {G H : Hp} {ps : List (PyData × Nat)} (h : Rows K G H [] ps) : ps = [] := by
  cases ps with
  | nil => rfl
  | cons p ps => exact h.elim
theorem dqAll_at {K : PySem.W.Frag} {H : Hp} {y : V} : ∀ (vs : List V) (ds : List PyData) (i : Nat), DqAll K H vs ds → vs[i]? = some y → ∃ e, ds[i]? = some e ∧ Dq K H y e
  | [], _, i, _, h => by simp at h
  | v :: vs, [], i, D, h => by cases D
  | v :: vs, d :: ds, 0, D, h => by
    cases D with
    | cons r t => cases h; exact ⟨_, rfl, r⟩
  | v :: vs, d :: ds, i + 1, D, h => by
    cases D with
    | cons r t => exact dqAll_at vs ds i t h
section
variable {P : Program} {w : World} {K : PySem.W.Frag} {mg : Str → Option Value} {base : Heap}
theorem scPf : FnScope ["value", "found", "waiting", "part", "depth", "inner", "one"] ["value"] (defScope sFound) := ⟨rfl, rfl, rfl, by decide +kernel, rfl, by decide +kernel, by decide +kernel⟩
theorem ok_found {f g : Addr} {fd gd : FuncData} (F : Fun K "parts_found" "parts_found" sFound f fd) (T : Nk mg) (N : Np mg) (KA : Gv P w K mg base 3 "kinds_among" g gd ["part"] (spKa K)) : FnOk P w K mg base CX0 4 f fd ["value"] (spPf K) := by
  refine F.ok scPf (fun vs H Q E h => ?_) (fun cdv A outer s H vs Q E hr h => ?_)
  · obtain ⟨v, d, G, rfl, _⟩ := h
    rfl
  obtain ⟨v, d, G, rfl, sG, hd, ht, q⟩ := h
  obtain ⟨t5, h5⟩ := N.deep
  obtain ⟨t6, h6⟩ := N.most
  refine ⟨_, pss_cons (ps_set (i := 1) scPf.nd rfl (.inl rfl) (pe_lst pa_nil))
    (pss_cons (ps_set (i := 2) scPf.nd rfl (.inl rfl) (pe_lst (pa_cons (pe_tup (pa_cons (pv 0) (pa_cons pe_int pa_nil))) pa_nil)))
    (pss_cons (ps_while PassesOwn.never (pt_truth (pv 2) (by intro _; rfl))
      (pss_cons (ps_asg (pe_bm0 PySem.F.plainAttrs_list PySem.F.slot_list_pop PySem.F.type_list_pop mt_pop (pv 2)) (pg_tup rfl (pgs_cons (pg_name (i := 3) scPf.nd rfl (.inl rfl)) (pgs_cons (pg_name (i := 4) scPf.nd rfl (.inr rfl)) pgs_nil))))
      (pss_cons (ps_set (i := 5) scPf.nd rfl (.inl rfl) (pe_call KA.ok hr rfl KA.m KA.k KA.b .nil pass0 (pa_cons (pv 3) pa_nil)))
      (pss_cons (ps_if (PW.pt (pw_or (pt_cmpR op_isN (pv 5) pe_non (nomark _)) (pw_or (pt_cmpR op_gt (pv 4) (pe_glob (v := .int 30) rfl h5 ⟨_, rfl⟩) (nomark _)) (pw_or1 (pt_cmpR op_eq (pe_callB call_len_seq rfl T.len PySem.boot_len (pa_cons (pv 1) pa_nil)) (pe_glob (v := .int 2000) rfl h6 ⟨_, rfl⟩) (nomark _)))))) (pss_one (ps_ret pe_non)) pss_nil)
      (pss_cons (ps_expr (pe_bm PySem.F.plainAttrs_list PySem.F.slot_list_append PySem.F.type_list_append mt_append (pv 1) (pa_cons (pe_tup (pa_cons (pv 3) (pa_cons (pv 4) pa_nil))) pa_nil)))
      (pss_one (ps_expr (pe_bm PySem.F.plainAttrs_list PySem.F.slot_list_extend PySem.F.type_list_extend mt_extend (pv 2) (pa_cons
        (pe_lc (own := [("one", 6)]) (g := gName 6) (tt := tYes) rfl scPf.nd (pi_tup (pv 5)) (blkOk_by (own := [("one", 6)]) (N := ["value", "found", "waiting", "part", "depth", "inner", "one"]) (sc := defScope sFound) (by decide +kernel))
          (fun _ _ _ _ _ => pg_name (i := 6) scPf.nd rfl (.inl rfl)) (fun _ _ _ _ _ => pts_nil) (fun _ _ _ _ _ => pe_tup (pa_cons (pv 6) (pa_cons (pe_op op_add (pv 4) pe_int) pa_nil)))) pa_nil)))))))))
    (pss_one (ps_ret (pv 1))))), ?_⟩
  have z3 : ∀ {k : Nat}, k ≤ 5000 → k ≤ sizeLine := fun h => Nat.le_trans h (by decide)
  refine ⟨z3 (by show 0 ≤ 5000; decide), fun fa hfa => ?_⟩
  have s1 := same_new hfa (.lst [])
  have f1 : upd H fa (.lst []) fa = some (.lst []) := upd_same
  generalize upd H fa (.lst []) = H1 at s1 f1 ⊢
  refine ⟨_, rfl, z3 (by show 2 ≤ 5000; decide), fun t0 ht0 => ⟨z3 (by show 1 ≤ 5000; decide), fun wa hwa => ?_⟩⟩
  have s2 := same_new ht0 (.tup [v, .int 1])
  have s3 := same_new hwa (.lst [.ref t0])
  have f3 := s3 _ _ (s2 _ _ f1)
  have w3 : upd (upd H1 t0 (.tup [v, .int 1])) wa (.lst [.ref t0]) wa = some (.lst [.ref t0]) := upd_same
  have r0 : upd (upd H1 t0 (.tup [v, .int 1])) wa (.lst [.ref t0]) t0 = some (.tup [v, .int 1]) := s3 _ _ upd_same
  have S3 := s1.trans (s2.trans s3)
  have hwaH : H wa = none := (s1.trans s2).free hwa
  generalize upd (upd H1 t0 (.tup [v, .int 1])) wa (.lst [.ref t0]) = H3 at s3 f3 w3 r0 S3 ⊢
  have nfw : fa ≠ wa := fun z => by rw [z] at f1; rw [s2 _ _ f1] at hwa; cases hwa
  dsimp only [gName, tSeq]
  refine while_by (fun σ H' => ∃ n st fnd ws fs c3 c4 c5, σ = [some v, some (.ref fa), some (.ref wa), c3, c4, c5, none] ∧ Same H H' ∧ H' fa = some (.lst fs) ∧ H' wa = some (.lst ws) ∧ Rows K G H' ws.reverse st ∧ Rows K G H' fs fnd ∧
      n + fnd.length = 2000 ∧ st.length ≤ 2 * fnd.length + 1 ∧ pf n st fnd = pf 2000 [(d, 1)] []) (fun _ H' => match H' fa with | some (.lst fs) => 2001 - fs.length | _ => 0)
    ⟨2000, [(d, 1)], [], [.ref t0], [], none, none, none, rfl, S3, f3, w3, ⟨⟨t0, v, rfl, r0, hd, ht⟩, trivial⟩, trivial, rfl, (by show 1 ≤ 1; exact Nat.le_refl 1), rfl⟩ ?_ ?_
  · rintro σ H' ⟨n, st, fnd, ws, fs, c3, c4, c5, rfl, sH, hf, hw, rw', rf, hn, hst, hpf⟩
    have sG' : Same G H' := sG.trans sH
    rcases List.eq_nil_or_concat ws with rfl | ⟨w', y, rfl⟩
    · -- the end
      refine ⟨_, rfl, false, .inl ⟨[], SqL.of hw, rfl⟩, iteF ?_⟩
      have e : st = [] := rows_nil_inv rw'
      subst e
      have e2 : pf n [] fnd = some fnd := by cases n <;> rfl
      rw [e2] at hpf
      exact ⟨_, rfl, q _ H' sH (by rw [← hpf]; exact ⟨fa, fs, rfl, hf, rf⟩)⟩
    · rw [List.concat_eq_append] at hw rw'
      rw [List.reverse_append, List.reverse_singleton, List.singleton_append] at rw'
      rcases st with _ | ⟨⟨d1, k⟩, st'⟩
      · exact rw'.elim
      obtain ⟨⟨t, x, rfl, hT, hD, hX⟩, rw2⟩ := rw'
      refine ⟨_, rfl, true, .inl ⟨_, SqL.of hw, by simp⟩, iteT ?_⟩
      refine ⟨_, rfl, .inl ⟨rfl, _, SqL.of hw⟩, wa, _, .ref t, rfl, rfl, hw, by simp, ?_⟩
      have dl : (w' ++ [V.ref t]).dropLast = w' := by simp
      rw [dl]
      have k1 := keep_upd (zs := w') hw
      have sH1 : Same H (upd H' wa (.lst w')) := fun b o e => by rw [upd_ne (ne_of_none e hwaH)]; exact sH _ _ e
      have hT1 := k1 _ _ hT
      have hf1 : upd H' wa (.lst w') fa = some (.lst fs) := by rw [upd_ne nfw]; exact hf
      have hw1 : upd H' wa (.lst w') wa = some (.lst w') := upd_same
      have rw3 := rw2.keep k1
      have rf1 := rf.keep k1
      generalize upd H' wa (.lst w') = H4 at sH1 hT1 hf1 hw1 rw3 rf1 ⊢
      refine ⟨t, _, rfl, SqT.of hT1, rfl, _, _, rfl, _, _, rfl, rfl, ?_⟩
      refine ⟨_, rfl, x, d1, G, rfl, sG.trans sH1, hD, hX, fun u H5 s5 res => ?_⟩
      have sH5 := sH1.trans s5
      have hf5 := s5 _ _ hf1
      have hw5 := s5 _ _ hw1
      have rw5 := rw3.keep (keep_same s5)
      have rf5 := rf1.keep (keep_same s5)
      have fl := rf5.len
      have out : pf n ((d1, k) :: st') fnd = none → _ := fun e => q .non H5 sH5 (by rw [← hpf, e]; rfl)
      refine ⟨_, rfl, rfl, _, rfl, ?_⟩
      cases hi : inner d1 with
      | none =>
        rw [hi] at res
        obtain rfl : u = .non := res
        exact iteT (out (by cases n with
          | zero => rfl
          | succ m => show (match inner d1 with | none => none | some ds => _) = none; rw [hi]))
      | some ds =>
        rw [hi] at res
        obtain ⟨a, xs, rfl, hx, hA⟩ := res
        refine iteF ⟨_, rfl, _, _, rfl, rfl, _, rfl, ?_⟩
        refine ite2 (fun g => ?_) (fun g => ?_)
        · have g' : (k : Int) > 30 := of_decide_eq_true g
          exact out (by cases n with
            | zero => rfl
            | succ m => show (match inner d1 with | none => none | some ds => _) = none; rw [hi]; exact if_pos (by omega))
        · have g' : ¬ (k : Int) > 30 := of_decide_eq_false (Bool.eq_false_iff.mpr g)
          refine ⟨_, rfl, fa, _, rfl, .inl (SqL.of hf5), rfl, _, rfl, ?_⟩
          refine ite2 (fun z => ?_) (fun z => ?_)
          · have z' := num_eq z
            obtain rfl : n = 0 := by omega
            exact out rfl
          · have z' := num_ne z
            obtain ⟨m, rfl⟩ : ∃ m, n = m + 1 := ⟨n - 1, by omega⟩
            have ep : pf (m + 1) ((d1, k) :: st') fnd = pf m ((ds.map fun x => (x, k + 1)).reverse ++ st') (fnd ++ [(d1, k)]) := by
              show (match inner d1 with | none => none | some ds => if 30 < k then none else pf m ((ds.map fun x => (x, k + 1)).reverse ++ st') (fnd ++ [(d1, k)])) = _
              rw [hi]
              exact if_neg (by omega)
            have hds : ds.length ≤ 2 := by
              unfold inner at hi
              split at hi
              · split at hi
                · cases hi; exact Nat.zero_le _
                · cases hi
              · split at hi
                · cases hi; exact Nat.zero_le _
                · cases hi
              · split at hi
                · cases hi; exact Nat.le_refl 2
                · cases hi
              · cases hi
            refine ⟨_, rfl, .inl ⟨rfl, _, SqL.of hf5⟩, _, rfl, _, rfl, z3 (by show 2 ≤ 5000; decide), fun t2 ht2 => ?_⟩
            have s6 := same_new ht2 (.tup [x, .int (k : Nat)])
            refine ⟨fa, fs, .ref t2, rfl, rfl, s6 _ _ hf5, Nat.lt_of_le_of_lt (by omega : fs.length ≤ 2000) (by decide), ?_⟩
            have s7 : Same H (upd (upd H5 t2 (.tup [x, .int (k : Nat)])) fa (.lst (fs ++ [.ref t2]))) := fun b o e => by rw [upd_ne (ne_of_none e hfa)]; exact s6 _ _ (sH5 _ _ e)
            have k7 : ∀ b zs, H5 b = some (.tup zs) → upd (upd H5 t2 (.tup [x, .int (k : Nat)])) fa (.lst (fs ++ [.ref t2])) b = some (.tup zs) := fun b zs e => keep_upd (s6 _ _ hf5) _ _ (s6 _ _ e)
            have hx7 : SqT K (upd (upd H5 t2 (.tup [x, .int (k : Nat)])) fa (.lst (fs ++ [.ref t2]))) a xs := by
              rcases hx with (h | ⟨o, h⟩) | h
              · exact .inl (.inl (k7 _ _ h))
              · exact .inl (.inr ⟨o, by rw [upd_ne (fun z => by rw [z, hf5] at h; cases h)]; exact s6 _ _ h⟩)
              · exact .inr h
            have hw7 : upd (upd H5 t2 (.tup [x, .int (k : Nat)])) fa (.lst (fs ++ [.ref t2])) wa = some (.lst w') := by rw [upd_ne (Ne.symm nfw)]; exact s6 _ _ hw5
            have hf7 : upd (upd H5 t2 (.tup [x, .int (k : Nat)])) fa (.lst (fs ++ [.ref t2])) fa = some (.lst (fs ++ [.ref t2])) := upd_same
            have ht7 : upd (upd H5 t2 (.tup [x, .int (k : Nat)])) fa (.lst (fs ++ [.ref t2])) t2 = some (.tup [x, .int (k : Nat)]) := keep_upd (s6 _ _ hf5) _ _ upd_same
            have rw7 := rw5.keep k7
            have one7 : Rows K G (upd (upd H5 t2 (.tup [x, .int (k : Nat)])) fa (.lst (fs ++ [.ref t2]))) [.ref t2] [(d1, k)] := ⟨⟨t2, x, rfl, ht7, hD, hX⟩, trivial⟩
            have rf7 := (rf5.keep k7).app one7
            clear one7
            generalize upd (upd H5 t2 (.tup [x, .int (k : Nat)])) fa (.lst (fs ++ [.ref t2])) = H7 at s7 k7 hx7 hw7 hf7 ht7 rw7 rf7 ⊢
            have txs := inner_txt hi hX
            refine ⟨_, rfl, .inl ⟨rfl, _, SqL.of hw7⟩, _, rfl, a, rfl, ⟨_, hx7⟩, fun D nD => ?_⟩
            refine lc_it (walk_tup (xs := xs)) (fun i H8 => Same H7 H8 ∧ ∃ zs, H8 D = some (.lst zs) ∧ zs.length = i ∧ Rows K G H8 zs ((ds.take i).map fun x => (x, k + 1))) ⟨same_new nD _, [], upd_same, rfl, trivial⟩ (fun i H8 _ z => z.1.seqT hx7) ?_ ?_
            · rintro i y H8 _ hii ⟨s8, zs, hzD, hzl, hzr⟩ ⟨rfl, hy⟩
              refine ⟨rfl, ?_⟩
              simp only [tYes, ↓reduceIte]
              obtain ⟨e, he, hde⟩ := dqAll_at _ _ _ hA hy
              refine ⟨_, rfl, _, rfl, _, _, rfl, rfl, z3 (by show 2 ≤ 5000; decide), fun t3 ht3 => ?_⟩
              have s9 := same_new ht3 (.tup [y, .int ((k : Nat) + 1 : Int)])
              have hz9 := s9 _ _ hzD
              have hil : i < ds.length := (List.getElem?_eq_some_iff.mp he).1
              refine ⟨zs, hz9, Nat.lt_of_le_of_lt (by omega : zs.length ≤ 2) (by decide), fun b o q => by rw [upd_ne (ne_of_none q nD)]; exact s9 _ _ (s8 _ _ q), zs ++ [.ref t3], upd_same, by rw [List.length_append, hzl]; rfl, ?_⟩
              rw [List.take_add_one, he, List.map_append]
              refine Rows.app ((hzr.keep (keep_same s9)).keep (keep_upd hz9)) ⟨⟨t3, y, rfl, keep_upd hz9 _ _ upd_same, hde, txs e (List.mem_of_getElem? he)⟩, trivial⟩
            · rintro H8 ⟨s8, zs, hzD, hzl, hzr⟩
              have el : xs.length = ds.length := hA.len
              rw [el, List.take_length] at hzr
              have hzlen := hzr.len
              rw [List.length_map] at hzlen
              have hw8 := s8 _ _ hw7
              have hf8 := s8 _ _ hf7
              have wl : w'.length = st'.length := by have := rw7.len; rwa [List.length_reverse] at this
              have hst' : st'.length + 1 ≤ 2 * fnd.length + 1 := hst
              refine ⟨wa, D, w', zs, rfl, rfl, hw8, hzD, z3 (by omega), ?_⟩
              have nwf : fa ≠ wa := nfw
              refine ⟨⟨m, (ds.map fun x => (x, k + 1)).reverse ++ st', fnd ++ [(d1, k)], w' ++ zs, fs ++ [.ref t2], _, _, _, rfl, fun b o e => by rw [upd_ne (ne_of_none e hwaH)]; exact s8 _ _ (s7 _ _ e), by rw [upd_ne nwf]; exact hf8, upd_same, ?_, ?_, ?_, ?_, by rw [← ep]; exact hpf⟩, ?_⟩
              · rw [List.reverse_append]
                exact (hzr.rev.app (rw7.keep (keep_same s8))).keep (keep_upd hw8)
              · exact (rf7.keep (keep_same s8)).keep (keep_upd hw8)
              · rw [List.length_append, List.length_singleton]; omega
              · rw [List.length_append, List.length_reverse, List.length_map, List.length_append, List.length_singleton]; omega
              · show (match upd H8 wa (.lst (w' ++ zs)) fa with | some (.lst fs) => 2001 - fs.length | _ => 0) < (match H' fa with | some (.lst fs) => 2001 - fs.length | _ => 0)
                rw [upd_ne nwf, hf8, hf]
                show 2001 - (fs ++ [V.ref t2]).length < 2001 - fs.length
                rw [List.length_append, List.length_singleton]
                omega
  · intro σ H' Q1 Q2 hq hc
    obtain ⟨x, ex, k, tr, q1⟩ := hc
    exact ⟨x, ex, k, tr, hq _ _ q1⟩
end
end Toy
set_option Elab.async false
set_option linter.all false
set_option maxRecDepth 100000
set_option maxHeartbeats 1000000
namespace Toy
open PySem L2
/-! ### what the search tells -/
/-- the parts with their depths, in the order in which they are found -/
def prt : Nat → PyData → Nat → List (PyData × Nat)
  | 0, d, k => [(d, k)]
  | n + 1, d, k => (d, k) :: (match kids d with | some (a, b) => prt n b (k + 1) ++ prt n a (k + 1) | none => [])
theorem ms_pos : ∀ (n : Nat) (d : PyData), 1 ≤ (ms n d).1 ∧ 1 ≤ (ms n d).2.1
  | 0, _ => ⟨Nat.le_refl 1, Nat.le_refl 1⟩
  | n + 1, d => by
    show 1 ≤ (match kids d with | some (a, b) => two (ms n a) (ms n b) | none => (1, 1, nameOf d)).1 ∧ 1 ≤ (match kids d with | some (a, b) => two (ms n a) (ms n b) | none => (1, 1, nameOf d)).2.1
    cases kids d with
    | none => exact ⟨Nat.le_refl 1, Nat.le_refl 1⟩
    | some p => obtain ⟨a, b⟩ := p; exact ⟨Nat.le_add_left 1 _, Nat.le_add_left 1 _⟩
theorem inv_name (w : Str) : inV (.str w) ((["name"] : List Str).map V.str) = w1 w := by
  show ((("name" : Str) == w) || false) = decide (V.str w = V.str "name")
  rw [Bool.or_false]
  by_cases h : ("name" : Str) = w
  · subst h; simp
  · rw [decide_eq_false (fun z => h (by injection z with z; exact z.symm))]
    exact Bool.eq_false_iff.mpr fun z => h (eq_of_beq z)
theorem fB_one (n : Nat) (w : Str) : fB (n + 1) (.tuple [.str w]) = w3 w := by
  show (w3 w || false) = w3 w
  exact Bool.or_false _
theorem fB_nam (n : Nat) (w : Str) (d : PyData) : fB (n + 1) (.tuple [.str w, d]) = (w1 w && nmB d) := by
  show (inV (.str w) (L1.map V.str) && nmB d) = _
  rw [inv_name]
theorem fB_two (n : Nat) (w : Str) (a b : PyData) : fB (n + 1) (.tuple [.str w, a, b]) = (w2 w && (fB n a && fB n b)) := by
  show (if w2 w = true then (fB n a && fB n b) else false) = _
  cases w2 w <;> rfl
theorem fB_no {d : PyData} (h : inner d = none) : ∀ n, fB n d = false
  | 0 => rfl
  | n + 1 => by
    cases d with
    | tuple ds =>
      rcases ds with _ | ⟨d0, r⟩
      · rfl
      · cases d0 with
        | str w =>
          rcases r with _ | ⟨x, _ | ⟨y, _ | ⟨z, r⟩⟩⟩
          · rw [fB_one]
            have e : (if w3 w = true then some ([] : List PyData) else none) = none := h
            cases q : w3 w with
            | false => rfl
            | true => rw [q] at e; cases e
          · rw [fB_nam]
            have e : (if (w1 w && nmB x) = true then some ([] : List PyData) else none) = none := h
            cases q : (w1 w && nmB x) with
            | false => rfl
            | true => rw [q] at e; cases e
          · rw [fB_two]
            have e : (if w2 w = true then some [x, y] else none) = none := h
            cases q : w2 w with
            | false => rfl
            | true => rw [q] at e; cases e
          · have e : ∀ (k : Nat) (ws : List Str), k ≤ 3 → headB (.tuple (.str w :: x :: y :: z :: r)) k ws = false := fun k ws hk => by
              show (decide ((x :: y :: z :: r).length + 1 = k) && _) = false
              rw [decide_eq_false (by simp only [List.length_cons]; omega)]
              rfl
            show (headB _ 1 L3 || (if headB _ 3 L2w = true then _ else headB _ 2 L1 && named _)) = false
            rw [e 1 _ (by decide), e 3 _ (by decide), e 2 _ (by decide)]
            rfl
        | _ => rfl
    | _ => rfl
theorem inner_ways (d : PyData) : inner d = none ∨ (inner d = some [] ∧ kids d = none ∧ ∀ n, fB (n + 1) d = true) ∨ ∃ w a b, d = .tuple [.str w, a, b] ∧ w2 w = true ∧ inner d = some [a, b] := by
  cases d with
  | tuple ds =>
    rcases ds with _ | ⟨d0, r⟩
    · exact .inl rfl
    · cases d0 with
      | str w =>
        rcases r with _ | ⟨x, _ | ⟨y, _ | ⟨z, r⟩⟩⟩
        · cases q : w3 w with
          | false => exact .inl (by show (if w3 w = true then some ([] : List PyData) else none) = none; rw [q]; rfl)
          | true => exact .inr (.inl ⟨by show (if w3 w = true then some ([] : List PyData) else none) = some []; rw [q]; rfl, rfl, fun n => by rw [fB_one, q]⟩)
        · cases q : (w1 w && nmB x) with
          | false => exact .inl (by show (if (w1 w && nmB x) = true then some ([] : List PyData) else none) = none; rw [q]; rfl)
          | true => exact .inr (.inl ⟨by show (if (w1 w && nmB x) = true then some ([] : List PyData) else none) = some []; rw [q]; rfl, rfl, fun n => by rw [fB_nam, q]⟩)
        · cases q : w2 w with
          | false => exact .inl (by show (if w2 w = true then some [x, y] else none) = none; rw [q]; rfl)
          | true => exact .inr (.inr ⟨w, x, y, rfl, q, by show (if w2 w = true then some [x, y] else none) = some [x, y]; rw [q]; rfl⟩)
        · exact .inl rfl
      | _ => first | exact .inl rfl | (rcases r with _ | ⟨_, _ | ⟨_, _ | ⟨_, _⟩⟩⟩ <;> exact .inl rfl)
  | _ => exact .inl rfl
def okk (m n k : Nat) (d : PyData) : Bool := fB m d && (decide ((ms m d).1 + k ≤ 31) && decide ((ms m d).2.1 ≤ n))
theorem pf_no {d : PyData} (h : inner d = none) (n k : Nat) (st fd : List (PyData × Nat)) : pf n ((d, k) :: st) fd = none := by
  cases n with
  | zero => rfl
  | succ n => show (match inner d with | none => none | some ds => _) = none; rw [h]
theorem pf_some {d : PyData} {ds : List PyData} (h : inner d = some ds) (n k : Nat) (st fd : List (PyData × Nat)) : pf (n + 1) ((d, k) :: st) fd = if 30 < k then none else pf n ((ds.map fun x => (x, k + 1)).reverse ++ st) (fd ++ [(d, k)]) := by
  show (match inner d with | none => none | some ds => if 30 < k then none else pf n ((ds.map fun x => (x, k + 1)).reverse ++ st) (fd ++ [(d, k)])) = _
  rw [h]
theorem pf_eq : ∀ (m : Nat) (d : PyData) (k n : Nat) (st fd : List (PyData × Nat)), d.depth ≤ m →
    pf n ((d, k) :: st) fd = if okk m n k d = true then pf (n - (ms m d).2.1) st (fd ++ prt m d k) else none
  | 0, d, k, n, st, fd, hd => by
    rcases inner_ways d with h | ⟨h, hk, hf⟩ | ⟨w, a, b, rfl, hw, h⟩
    · rw [pf_no h]; rfl
    · exfalso
      cases d with
      | tuple ds => simp only [PyData.depth] at hd; omega
      | _ => cases h
    · simp only [PyData.depth] at hd; omega
  | m + 1, d, k, n, st, fd, hd => by
    rcases inner_ways d with h | ⟨h, hk, hf⟩ | ⟨w, a, b, rfl, hw, h⟩
    · rw [pf_no h]
      have e : okk (m + 1) n k d = false := by unfold okk; rw [fB_no h]; rfl
      rw [e]; rfl
    · have em : ms (m + 1) d = (1, 1, nameOf d) := by
        show (match kids d with | some (a, b) => two (ms m a) (ms m b) | none => (1, 1, nameOf d)) = _
        rw [hk]
      have ep : prt (m + 1) d k = [(d, k)] := by
        show (d, k) :: (match kids d with | some (a, b) => prt m b (k + 1) ++ prt m a (k + 1) | none => []) = _
        rw [hk]
      have eo : okk (m + 1) n k d = (decide (1 + k ≤ 31) && decide (1 ≤ n)) := by unfold okk; rw [hf m, em]; rfl
      rw [eo, em, ep]
      cases n with
      | zero =>
        rw [decide_eq_false (by omega : ¬ (1 ≤ 0)), Bool.and_false]
        rfl
      | succ n =>
        rw [pf_some h]
        by_cases g : 30 < k
        · rw [if_pos g, decide_eq_false (by omega : ¬ (1 + k ≤ 31))]
          rfl
        · rw [if_neg g, decide_eq_true (by omega : 1 + k ≤ 31), decide_eq_true (by omega : 1 ≤ n + 1)]
          rfl
    · obtain ⟨da, db⟩ := depth_two hd
      have em : ms (m + 1) (.tuple [.str w, a, b]) = two (ms m a) (ms m b) := rfl
      have ep : prt (m + 1) (.tuple [.str w, a, b]) k = (.tuple [.str w, a, b], k) :: (prt m b (k + 1) ++ prt m a (k + 1)) := rfl
      have pa := ms_pos m a
      have pb := ms_pos m b
      have eo : okk (m + 1) n k (.tuple [.str w, a, b]) = ((fB m a && fB m b) && (decide (max (ms m a).1 (ms m b).1 + 1 + k ≤ 31) && decide ((ms m a).2.1 + (ms m b).2.1 + 1 ≤ n))) := by
        unfold okk
        rw [fB_two, hw, Bool.true_and, em]
        rfl
      rw [eo, em, ep]
      cases n with
      | zero =>
        rw [decide_eq_false (by omega : ¬ ((ms m a).2.1 + (ms m b).2.1 + 1 ≤ 0)), Bool.and_false, Bool.and_false]
        rfl
      | succ n =>
        rw [pf_some h]
        by_cases g : 30 < k
        · rw [if_pos g, decide_eq_false (by omega : ¬ (max (ms m a).1 (ms m b).1 + 1 + k ≤ 31)), Bool.false_and, Bool.and_false]
          rfl
        · rw [if_neg g]
          show pf n ((b, k + 1) :: (a, k + 1) :: st) (fd ++ [(PyData.tuple [.str w, a, b], k)]) = _
          rw [pf_eq m b (k + 1) n _ _ db]
          cases hb : okk m n (k + 1) b with
          | false =>
            have e : ((fB m a && fB m b) && (decide (max (ms m a).1 (ms m b).1 + 1 + k ≤ 31) && decide ((ms m a).2.1 + (ms m b).2.1 + 1 ≤ n + 1))) = false := by
              rw [Bool.eq_false_iff]
              intro z
              simp only [Bool.and_eq_true, decide_eq_true_eq] at z
              have : okk m n (k + 1) b = true := by
                unfold okk
                simp only [Bool.and_eq_true, decide_eq_true_eq]
                exact ⟨z.1.2, by omega, by omega⟩
              rw [hb] at this
              cases this
            rw [e]
            rfl
          | true =>
            rw [if_pos rfl, pf_eq m a (k + 1) _ _ _ da]
            have hb' := hb
            unfold okk at hb'
            simp only [Bool.and_eq_true, decide_eq_true_eq] at hb'
            have e : ((fB m a && fB m b) && (decide (max (ms m a).1 (ms m b).1 + 1 + k ≤ 31) && decide ((ms m a).2.1 + (ms m b).2.1 + 1 ≤ n + 1))) = okk m (n - (ms m b).2.1) (k + 1) a := by
              unfold okk
              rw [Bool.eq_iff_iff]
              simp only [Bool.and_eq_true, decide_eq_true_eq]
              constructor
              · rintro ⟨⟨h1, h2⟩, h3, h4⟩
                exact ⟨h1, by omega, by omega⟩
              · rintro ⟨h1, h3, h4⟩
                exact ⟨⟨h1, hb'.1⟩, by omega, by omega⟩
            rw [e]
            have e2 : n - (ms m b).2.1 - (ms m a).2.1 = n + 1 - (two (ms m a) (ms m b)).2.1 := by
              show _ = n + 1 - ((ms m a).2.1 + (ms m b).2.1 + 1)
              omega
            rw [e2, List.append_assoc, List.append_assoc]
            rfl
theorem pf_kd {m : Nat} {d : PyData} (hd : d.depth ≤ m) : pf 2000 [(d, 1)] [] = if kdB m d = true then some (prt m d 1) else none := by
  rw [pf_eq m d 1 2000 [] [] hd]
  have e : okk m 2000 1 d = kdB m d := by
    unfold okk kdB
    congr 2
    exact decide_eq_decide.mpr (by omega)
  rw [e]
  cases kdB m d with
  | false => rfl
  | true =>
    rw [if_pos rfl, if_pos rfl, List.nil_append]
    cases (2000 - (ms m d).2.1) <;> rfl
theorem prt_len : ∀ (n : Nat) (d : PyData) (k : Nat), (prt n d k).length = (ms n d).2.1
  | 0, _, _ => rfl
  | n + 1, d, k => by
    show ((d, k) :: (match kids d with | some (a, b) => prt n b (k + 1) ++ prt n a (k + 1) | none => [])).length = (match kids d with | some (a, b) => two (ms n a) (ms n b) | none => (1, 1, nameOf d)).2.1
    cases kids d with
    | none => rfl
    | some p =>
      obtain ⟨a, b⟩ := p
      show (prt n b (k + 1) ++ prt n a (k + 1)).length + 1 = (ms n a).2.1 + (ms n b).2.1 + 1
      rw [List.length_append, prt_len n b, prt_len n a]
      omega
theorem prt_top : ∀ (n : Nat) (d : PyData) (k : Nat), (∀ p ∈ prt n d k, p.2 + 1 ≤ k + (ms n d).1) ∧ ∃ p ∈ prt n d k, p.2 + 1 = k + (ms n d).1
  | 0, d, k => ⟨fun p h => by rw [List.mem_singleton.mp h]; exact Nat.le_refl _, ⟨(d, k), List.mem_singleton.mpr rfl, rfl⟩⟩
  | n + 1, d, k => by
    show (∀ p ∈ ((d, k) :: (match kids d with | some (a, b) => prt n b (k + 1) ++ prt n a (k + 1) | none => [])), p.2 + 1 ≤ k + (match kids d with | some (a, b) => two (ms n a) (ms n b) | none => (1, 1, nameOf d)).1) ∧
      ∃ p ∈ ((d, k) :: (match kids d with | some (a, b) => prt n b (k + 1) ++ prt n a (k + 1) | none => [])), p.2 + 1 = k + (match kids d with | some (a, b) => two (ms n a) (ms n b) | none => (1, 1, nameOf d)).1
    cases kids d with
    | none => exact ⟨fun p h => by rw [List.mem_singleton.mp h]; exact Nat.le_refl _, ⟨(d, k), List.mem_singleton.mpr rfl, rfl⟩⟩
    | some q =>
      obtain ⟨a, b⟩ := q
      obtain ⟨a1, pa, ma, ea⟩ := prt_top n a (k + 1)
      obtain ⟨b1, pb, mb, eb⟩ := prt_top n b (k + 1)
      show (∀ p ∈ ((d, k) :: (prt n b (k + 1) ++ prt n a (k + 1))), p.2 + 1 ≤ k + (max (ms n a).1 (ms n b).1 + 1)) ∧ ∃ p ∈ ((d, k) :: (prt n b (k + 1) ++ prt n a (k + 1))), p.2 + 1 = k + (max (ms n a).1 (ms n b).1 + 1)
      refine ⟨fun p h => ?_, ?_⟩
      · rcases List.mem_cons.mp h with rfl | h
        · show k + 1 ≤ _; omega
        · rcases List.mem_append.mp h with h | h
          · have := b1 p h; omega
          · have := a1 p h; omega
      · by_cases g : (ms n a).1 ≤ (ms n b).1
        · exact ⟨pb, List.mem_cons_of_mem _ (List.mem_append_left _ mb), by omega⟩
        · exact ⟨pa, List.mem_cons_of_mem _ (List.mem_append_right _ ma), by omega⟩
/-- a part's form -/
def Frm (d : PyData) : Prop := (∃ w, d = .tuple [.str w] ∧ w1 w = false) ∨ (∃ w x, d = .tuple [.str w, .str x] ∧ w1 w = true) ∨ ∃ w a b, d = .tuple [.str w, a, b] ∧ w1 w = false
theorem w2_name {w : Str} (h : w2 w = true) : w1 w = false := by
  cases q : w1 w with
  | false => rfl
  | true =>
    have e : V.str w = V.str "name" := of_decide_eq_true q
    injection e with e
    rw [e] at h
    exact absurd h (by decide +kernel)
theorem frm_of {n : Nat} {d : PyData} (h : fB (n + 1) d = true) : Frm d := by
  rcases fB_ways h with ⟨w, rfl, _, b⟩ | ⟨w, x, rfl, _, b⟩ | ⟨w, a, b, rfl, c, _⟩
  · exact .inl ⟨w, rfl, b⟩
  · exact .inr (.inl ⟨w, x, rfl, b⟩)
  · exact .inr (.inr ⟨w, a, b, rfl, w2_name c⟩)
theorem prt_frm : ∀ (n : Nat) (d : PyData) (k : Nat), fB n d = true → ∀ p ∈ prt n d k, Frm p.1
  | 0, _, _, h => by cases h
  | n + 1, d, k, h => by
    have hf := frm_of h
    rcases fB_ways h with ⟨w, rfl, _, _⟩ | ⟨w, x, rfl, _, _⟩ | ⟨w, a, b, rfl, _, fa, fb⟩
    · intro p m
      rw [List.mem_singleton.mp m]; exact hf
    · intro p m
      rw [List.mem_singleton.mp m]; exact hf
    · intro p m
      have m' : p ∈ ((.tuple [.str w, a, b], k) :: (prt n b (k + 1) ++ prt n a (k + 1))) := m
      rcases List.mem_cons.mp m' with rfl | m'
      · exact hf
      · rcases List.mem_append.mp m' with m' | m'
        · exact prt_frm n b _ fb p m'
        · exact prt_frm n a _ fa p m'
/-- the names among the parts -/
def nmsOf (l : List (PyData × Nat)) : List Str := l.flatMap fun p => nameOf p.1
theorem prt_names : ∀ (n : Nat) (d : PyData) (k : Nat), fB n d = true → (nmsOf (prt n d k)).Perm (ms n d).2.2
  | 0, _, _, h => by cases h
  | n + 1, d, k, h => by
    rcases fB_ways h with ⟨w, rfl, _, _⟩ | ⟨w, x, rfl, _, _⟩ | ⟨w, a, b, rfl, _, fa, fb⟩
    · exact List.Perm.refl _
    · exact List.Perm.refl _
    · have e : nmsOf (prt (n + 1) (.tuple [.str w, a, b]) k) = nmsOf (prt n b (k + 1)) ++ nmsOf (prt n a (k + 1)) := by
        show nmsOf ((.tuple [.str w, a, b], k) :: (prt n b (k + 1) ++ prt n a (k + 1))) = _
        unfold nmsOf
        rw [List.flatMap_cons, List.flatMap_append]
        show nameOf (.tuple [.str w, a, b]) ++ _ = _
        have z : nameOf (.tuple [.str w, a, b]) = [] := by
          cases a <;> rfl
        rw [z, List.nil_append]
      rw [e]
      exact (List.Perm.append (prt_names n b _ fb) (prt_names n a _ fa)).trans List.perm_append_comm
end Toy
set_option Elab.async false
set_option linter.all false
set_option maxRecDepth 100000
set_option maxHeartbeats 1000000
/-! sorted of texts, any number of them -/
namespace StrO
open PySem PyProof.Rows Srt SrtO
def ltS (v u : Value) : Bool := decide ((strOf v).cps.toList < (strOf u).cps.toList)
theorem ltS_swo : Swo ltS := by
  refine ⟨fun x y h => ?_, fun x y z h1 h2 => ?_⟩
  · have a := of_decide_eq_true (p := (strOf x).cps.toList < (strOf y).cps.toList) h
    exact decide_eq_false (p := (strOf y).cps.toList < (strOf x).cps.toList) (List.lt_asymm a)
  · have a := of_decide_eq_false (p := (strOf y).cps.toList < (strOf x).cps.toList) h1
    have b := of_decide_eq_false (p := (strOf z).cps.toList < (strOf y).cps.toList) h2
    refine decide_eq_false (p := (strOf z).cps.toList < (strOf x).cps.toList) ?_
    rw [List.not_lt] at a b ⊢
    exact List.le_trans a b
/-- in no descending order -/
def upS (xs : List Str) : Prop := xs.Pairwise fun x y => ¬ y.cps.toList < x.cps.toList
section
variable {prog : Program} {w : World} {A : Around} {E : Value → Shared → Prop} {s : Shared}
theorem strs_cmp {vs : List Value} {xs : List Str} (hI : StrsAre vs xs) : Cmp prog w A s oneType' (fun p => p.1 ∈ vs) (lt2 ltS) := by
  intro p q hm hm'
  obtain ⟨x, tx, ex⟩ := hI.all _ hm
  obtain ⟨y, ty, ey⟩ := hI.all _ hm'
  show wpAny (model prog w) A (keyLt' oneType' p.1 q.1) (fun r s' => s' = s ∧ r = ltS p.1 q.1) (fun _ _ => False) s
  rw [ex, ey, keyLt'_oneType]
  exact oneLt_str ⟨rfl, rfl⟩
theorem strs_sortable {a : Addr} {vs : List Value} {xs : List Str} (hI : StrsAre vs xs) (h2 : 2 ≤ vs.length) : SortableO prog w A s a vs ltS := by
  intro hp _
  refine ⟨oneType', fun Q E hq => ?_, strs_cmp hI⟩
  match vs, hI, h2 with
  | v1 :: v2 :: more, hI, _ =>
    rw [keyKind_strs hI]
    exact wpAny_pure hq
  | [], _, z => exact absurd z (by decide)
  | [v], _, z => exact absurd z (by simp)
theorem strs_out {vs out : List Value} {xs : List Str} (hI : StrsAre vs xs) (hs : Srtd ltS out) (hb : Stb ltS out vs) : StrsAre out (out.map strOf) ∧ (out.map strOf).Perm xs ∧ upS (out.map strOf) := by
  refine ⟨strsAre_map out fun v hv => hI.all v (hb.perm.mem_iff.mp hv), ?_, ?_⟩
  · have z := hb.perm.map strOf
    rw [hI.strs] at z
    exact z
  · exact List.pairwise_map.mpr (hs.imp fun {x y} h => of_decide_eq_false (p := (strOf y).cps.toList < (strOf x).cps.toList) h)
end
end StrO
namespace L2
open PySem PySem.Spec PyProof.Rows StrO
/-- sorted of a list of texts -/
def rSortedX (K : PySem.W.Frag) : List V → Hp → VK → Prop := fun vs H Q => ∃ (a : Addr) (xs : List Str), vs = [V.ref a] ∧ SqL K H a (xs.map V.str) ∧
  ∀ (ys : List Str) (p : Addr), ys.Perm xs → upS ys → H p = none → Q (.ref p) (upd H p (.lst (ys.map V.str)))
theorem cr_sortedX {X : Cx} : CallR X (.builtin "sorted") (rSortedX X.K) := by
  intro pins s σ H vs us Q I r h
  obtain ⟨a, xs, rfl, hs, q⟩ := h
  obtain ⟨its, rv, hl, hz⟩ := I.list hs
  rw [Vals.ref1 r]
  have hI := rv.strs
  have hz2 : xs.length ≤ sizeLine := by rw [List.length_map] at hz; exact hz
  refine SrtO.sorted_ord ltS_swo hl.isList (by rw [← rv.length]; exact hz) (fun h2 h1 b _ _ => strs_sortable hI h2) fun out h1 h2 => ?_
  obtain ⟨k1, k2, k3⟩ := strs_out hI h1 h2
  obtain ⟨ep, he⟩ := PyProof.Rows.sortedAll_at s.heap its out.toArray
  have len : ((out.map strOf).map V.str).length ≤ sizeLine := by rw [List.length_map, k2.length_eq]; exact hz2
  exact ⟨.ref _, upd H (s.heap.objs.size + 1) (.lst ((out.map strOf).map V.str)), I.laid (t' := s.toks) (fun _ _ => PyProof.Rows.sortedAll_old) (Nat.le_succ _) ⟨len, out, ep, vals_of_strs k1, he⟩, rfl, q _ _ k2 k3 (I.hok.fresh (Nat.le_succ _))⟩
end L2
set_option Elab.async false
set_option linter.all false
set_option maxRecDepth 100000
set_option maxHeartbeats 1000000
/-! a set of texts, made of a list, and sorted -/
namespace StrT
open PySem PySem.Spec PyProof.Rows L2 StrO
def kyS (e : Int × Value) : Str := strOf e.2
def GdS (P : Program) (w : World) (e : Int × Value) : Prop := ∃ x tx, e.2 = Value.str x tx ∧ e.1 = (PySem.strKind P w).hash x
/-- the set of texts at a -/
structure StD (P : Program) (w : World) (S : Str → Bool) (n : Nat) (es : Array (Int × Value)) (t : SetTable) : Prop where
  gd : ∀ e ∈ es.toList, GdS P w e
  nd : (es.toList.map kyS).Nodup
  mem : ∀ x, S x = true ↔ x ∈ es.toList.map kyS
  small : es.size < scanBound
  fit : t.fits es.size = true
  size : es.size = n
  ris : Ris t.place.toList
  led : w.params.followText "set-order" = true ∨ t.led = true
def StS (P : Program) (w : World) (h : Heap) (a : Addr) (S : Str → Bool) (n : Nat) : Prop :=
  ∃ o es ep t, h.get? a = some o ∧ o.ExactSet ∧ o.data = .set es ep t ∧ StD P w S n es t
section
variable {P : Program} {w : World} {h : Heap} {a : Addr} {S : Str → Bool} {n : Nat}
theorem gds_elems {l : List (Int × Value)} (g : ∀ e ∈ l, GdS P w e) : ElemsOf (PySem.strKind P w) l := fun e he => by
  obtain ⟨x, tx, e1, e2⟩ := g e he
  exact ⟨⟨x, by rw [e1]; exact strKind_is P w x tx, e2⟩, by rw [e1]; rfl⟩
theorem gds_is {e : Int × Value} (g : GdS P w e) (x : Str) : (PySem.strKind P w).is x e.2 = true ↔ kyS e = x := by
  obtain ⟨y, ty, e1, _⟩ := g
  unfold kyS
  rw [e1]
  show ((Value.str y ty).isStrOf x = true) ↔ y = x
  simp [Value.isStrOf]
theorem gds_mem {l : List (Int × Value)} (g : ∀ e ∈ l, GdS P w e) (x : Str) : x ∈ l.map kyS ↔ ∃ e ∈ l, (PySem.strKind P w).is x e.2 = true := by
  rw [List.mem_map]
  exact ⟨fun ⟨e, he, q⟩ => ⟨e, he, (gds_is (g e he) x).2 q⟩, fun ⟨e, he, q⟩ => ⟨e, he, (gds_is (g e he) x).1 q⟩⟩
end
section
variable {P : Program} {w : World} {A : Around} {E : Value → Shared → Prop} {s : Shared} {a : Addr} {S : Str → Bool} {n : Nat}
theorem sts_tail {gv : Bool → Sem Unit} (hg : ∀ (b : Bool) (s₁ : Shared) (Q' : Unit → Shared → Prop), Q' () s₁ → wpAny (model P w) A (gv b) Q' E s₁)
    {o : Obj} {es es1 : Array (Int × Value)} {ep : Nat} {t t2 : SetTable} (ho : s.heap.get? a = some o) (hex : o.ExactSet) (hd : o.data = .set es ep t) {S' : Str → Bool} (D : StD P w S' es1.size es1 t2) {was : Bool} {R : Option Bool → Shared → Prop}
    (hR : ∀ hp, Heap.SameBut a s.heap hp → StS P w hp a S' es1.size → R (some true) { s with heap := hp }) :
    wpAny (model P w) A (do
      storeSet a es1 t2
      if (!was && t2.tooFull) = true then do
        gv (relayAll t2 es1 (SetTable.grown es1.size)).2.2
        storeSet a (relayAll t2 es1 (SetTable.grown es1.size)).1 (relayAll t2 es1 (SetTable.grown es1.size)).2.1
        pure (some true)
      else pure (some true)) R E s := by
  have at1 := store_at (es' := es1) (t' := t2) ho hd
  have but1 := Heap.SameBut.update s.heap a (Obj.putSet es1 t2)
  refine wpAny_bind (wpAny_storeSet_of ho hd ?_ (fits_of_scanBound D.small))
  split
  · have pm := relayAll_perm t2 es1 (SetTable.grown es1.size)
    have f3 := relayAll_fits t2 es1 (SetTable.grown es1.size)
    have r3 := relayAll_ris t2 es1 (SetTable.grown es1.size)
    have l3 := relayAll_led t2 es1 (SetTable.grown es1.size)
    generalize relayAll t2 es1 (SetTable.grown es1.size) = Z at pm f3 r3 l3 ⊢
    obtain ⟨es2, t3, gave⟩ := Z
    dsimp only at pm f3 r3 l3 ⊢
    have z2 : es2.size = es1.size := by rw [← Array.length_toList, pm.length_eq, Array.length_toList]
    have b2 : es2.size < scanBound := by rw [z2]; exact D.small
    refine wpAny_bind (hg _ _ _ (wpAny_bind (wpAny_storeSet_of at1 rfl (wpAny_pure (hR _ (but1.trans (Heap.SameBut.update _ a _)) ?_)) (fits_of_scanBound b2))))
    exact ⟨_, es2, _, t3, store_at (es' := es2) (t' := t3) at1 rfl, hex, rfl, fun e he => D.gd e (pm.mem_iff.mp he), (pm.map kyS).nodup_iff.mpr D.nd, fun x => (D.mem x).trans (pm.map kyS).mem_iff.symm, b2, f3, z2, r3, D.led.imp id fun z => by rw [l3]; exact z⟩
  · exact wpAny_pure (hR _ but1 ⟨_, es1, _, t2, at1, hex, rfl, D⟩)
theorem sts_add {x : Str} {tk : Tok} {Q : Bool → Shared → Prop} (R : StS P w s.heap a S n) (room : n + 1 < scanBound)
    (hQ : ∀ hp, Heap.SameBut a s.heap hp → StS P w hp a (fun y => S y || decide (y = x)) (if S x = true then n else n + 1) → Q (!S x) { s with heap := hp }) :
    wpAny (model P w) A (setAddHashed a (.str x tk) ((PySem.strKind P w).hash x)) Q E s := by
  obtain ⟨o, es, ep, t, ho, hex, hd, D⟩ := R
  have kx : (PySem.strKind P w).is x (.str x tk) = true := strKind_is P w x tk
  have sc : (Value.str x tk).scannable = true := rfl
  have el : ElemsOf (PySem.strKind P w) es.toList := gds_elems D.gd
  unfold setAddHashed setAddHashedIn
  refine wpAny_holding (wpAny_bind (wpAny_setState_of ho hd D.fit ?_))
  dsimp only
  rw [byScan_of sc D.small el]
  simp only [↓reduceIte]
  unfold setAddByScan
  refine wpAny_bind (wpAny_bind (wpAny_rule (wpAny_bind (wpAny_setScan_of kx ho hd D.fit el ?_))))
  cases hfi : List.findIdx? (fun e => (PySem.strKind P w).is x e.2) es.toList with
  | some j =>
    dsimp only
    obtain ⟨hj, pj, _⟩ := List.findIdx?_eq_some_iff_getElem.mp hfi
    have Sx : S x = true := (D.mem x).2 ((gds_mem D.gd x).2 ⟨es.toList[j], List.getElem_mem hj, pj⟩)
    have q := hQ s.heap (Heap.SameBut.refl a s.heap) ⟨o, es, ep, t, ho, hex, hd, { D with
      mem := fun y => by
        rw [Bool.or_eq_true, decide_eq_true_eq, ← D.mem y]
        exact ⟨fun z => z.elim id (fun e => e ▸ Sx), .inl⟩
      size := by rw [if_pos Sx]; exact D.size }⟩
    rw [Sx] at q
    exact wpAny_pure (wpAny_pure q)
  | none =>
    dsimp only
    have nx : x ∉ es.toList.map kyS := fun z => by
      obtain ⟨e, he, q⟩ := (gds_mem D.gd x).1 z
      have c := List.findIdx?_eq_none_iff.mp hfi e he
      rw [q] at c
      cases c
    have Sx : S x = false := by
      cases q : S x with
      | false => rfl
      | true => exact absurd ((D.mem x).1 q) nx
    have gw : ∀ (b : Bool) {s₁ : Shared} {Q' : Unit → Shared → Prop}, Q' () s₁ → wpAny (model P w) A (match b with | true => rule "set.scan.the-table-gave-way" | false => pure ()) Q' E s₁ :=
      fun b _ _ q => by cases b <;> first | exact wpAny_pure q | exact wpAny_rule q
    have pm := layNew_perm t es ((PySem.strKind P w).hash x) (.str x tk)
    have f1 := layNew_fits t es ((PySem.strKind P w).hash x) (.str x tk)
    have r1 := layNew_ris t es ((PySem.strKind P w).hash x) (.str x tk) D.ris
    have l1 := layNew_led t es ((PySem.strKind P w).hash x) (.str x tk)
    generalize layNew t es ((PySem.strKind P w).hash x) (.str x tk) = Z at pm f1 r1 l1 ⊢
    obtain ⟨es1, t1, was, gave⟩ := Z
    dsimp only at pm f1 r1 l1 ⊢
    rw [Array.toList_push] at pm
    have pc : es1.toList.Perm (((PySem.strKind P w).hash x, Value.str x tk) :: es.toList) := pm.trans (List.perm_append_singleton _ _)
    have pk : (es1.toList.map kyS).Perm (x :: es.toList.map kyS) := pc.map kyS
    have z1 : es1.size = n + 1 := by rw [← Array.length_toList, pc.length_eq, List.length_cons, Array.length_toList, D.size]
    have D1 : ∀ t2 : SetTable, t2.fits es1.size = true → Ris t2.place.toList → (t2.led = t1.led) → StD P w (fun y => S y || decide (y = x)) es1.size es1 t2 := fun t2 hf hr hl => {
      gd := fun e he => by
        rcases List.mem_cons.mp (pc.mem_iff.mp he) with z | z
        · rw [z]; exact ⟨x, tk, rfl, rfl⟩
        · exact D.gd e z
      nd := pk.nodup_iff.mpr (List.nodup_cons.mpr ⟨nx, D.nd⟩)
      mem := fun y => by
        rw [Bool.or_eq_true, decide_eq_true_eq, D.mem y, pk.mem_iff, List.mem_cons]
        exact Or.comm
      small := by rw [z1]; exact room
      fit := hf
      size := rfl
      ris := hr
      led := D.led.imp id fun z => by rw [hl, l1]; exact z }
    have fin : ∀ hp, Heap.SameBut a s.heap hp → StS P w hp a (fun y => S y || decide (y = x)) es1.size → Q true { s with heap := hp } := fun hp sb r => by
      have q := hQ hp sb
      rw [Sx] at q
      rw [z1] at r
      exact q r
    refine wpAny_bind (gw _ ?_)
    split
    · refine wpAny_bind ?_
      rw [hashByValue_scannable 8 sc]
      refine wpAny_pure (sts_tail ?_ ho hex hd (D1 _ ?_ ?_ ?_) ?_)
      · intro b s₁ Q' q; cases b <;> first | exact wpAny_pure q | exact wpAny_rule q
      · first | (split <;> first | exact f1 | exact SetTable.fits_plain_off f1) | exact f1
      · first | (split <;> exact r1) | exact r1
      · first | (split <;> rfl) | rfl
      · intro hp sb r; dsimp only; exact wpAny_pure (fin hp sb r)
    · refine wpAny_bind (wpAny_pure ?_)
      simp only [↓reduceIte]
      refine sts_tail ?_ ho hex hd (D1 t1 f1 r1 rfl) ?_
      · intro b s₁ Q' q; cases b <;> first | exact wpAny_pure q | exact wpAny_rule q
      · intro hp sb r; dsimp only; exact wpAny_pure (fin hp sb r)
end
end StrT
set_option Elab.async false
set_option linter.all false
set_option maxRecDepth 100000
set_option maxHeartbeats 3200000
namespace StrT
open PySem PySem.Spec PyProof.Rows L2 StrO
theorem StS.at {P : Program} {w : World} {h h' : Heap} {a : Addr} {S : Str → Bool} {n : Nat} (R : StS P w h a S n) (k : ∀ o, h.get? a = some o → h'.get? a = some o) : StS P w h' a S n := by
  obtain ⟨o, es, ep, t, ho, r⟩ := R
  exact ⟨o, es, ep, t, k o ho, r⟩
theorem StS.congr {P : Program} {w : World} {h : Heap} {a : Addr} {S S' : Str → Bool} {n : Nat} (R : StS P w h a S n) (e : ∀ x, S' x = S x) : StS P w h a S' n := by
  have q : S' = S := funext e
  rw [q]; exact R
abbrev freshSet (w : World) : Obj := { cls := .type "set", dict := none, data := .set #[] 0 (.fresh 0 0 (!w.params.followText "set-order")) }
theorem sts_fresh {P : Program} {w : World} {h : Heap} {a : Addr} {xs : List Str} (ho : h.get? a = some (freshSet w)) : StS P w h a (fun x => decide (x ∈ xs.take 0)) 0 :=
  ⟨_, #[], 0, _, ho, ⟨rfl, rfl, rfl⟩, rfl, {
    gd := fun e he => by simp at he
    nd := by simp
    mem := fun x => by simp
    small := by decide
    fit := by rfl
    size := rfl
    ris := List.Pairwise.nil
    led := by
      show _ ∨ (!w.params.followText "set-order") = true
      cases w.params.followText "set-order"
      · exact .inr rfl
      · exact .inl rfl }⟩
theorem strs_item {us : List Value} {xs : List Str} (h : StrsAre us xs) {i : Nat} {v : Value} (hv : us[i]? = some v) : ∃ x t, xs[i]? = some x ∧ v = .str x t := by
  have hi : i < xs.length := by
    rw [← StrsAre.len_eq h]; exact (List.getElem?_eq_some_iff.mp hv).1
  obtain ⟨t, e⟩ := SS.strs_at h i v hv
  refine ⟨xs[i], t, List.getElem?_eq_getElem hi, ?_⟩
  rw [e, List.getD_eq_getElem?_getD, List.getElem?_eq_getElem hi]
  rfl
section
variable {P : Program} {w : World} {A : Around} {E : Value → Shared → Prop} {s : Shared}
theorem update_strs {I : Addr} {fp wr : List Addr} {G : Array GenState → Array GenState → Prop} {n : Nat} {Pv : Nat → Value → Prop} {St : Nat → Shared → Prop} {R : Result → Shared → Prop}
    (W : WalksS P w A.in1 I fp wr G n Pv St) (a : Addr) (ha : a ∉ fp) (xs : List Str) (hn : n = xs.length) (hb : xs.length + 1 < scanBound) (hval : ∀ i v, Pv i v → ∃ x t, xs[i]? = some x ∧ v = .str x t) :
    ∀ (k i : Nat) (s : Shared), n - i = k → i ≤ n → St i s → (∃ c, c ≤ i ∧ StS P w s.heap a (fun x => decide (x ∈ xs.take i)) c) →
      (∀ s' c, Moved (a :: wr) G s s' → c ≤ n → StS P w s'.heap a (fun x => decide (x ∈ xs)) c → R (.ok (.ret .none)) s') →
      codeAny (model P w) A (.builtin "set.update.loop" ⟨[.ref a, .ref I], []⟩) R s := by
  have naw : a ∉ wr := fun z => ha (W.sub _ z)
  have sub : ∀ b ∈ wr, b ∈ a :: wr := fun b hb => List.mem_cons_of_mem _ hb
  intro k
  induction k with
  | zero =>
    intro i s hk hi hst ⟨c, hc, hS⟩ hR
    obtain rfl : i = n := by omega
    refine codeAny_builtin PyProof.Rows.F.entry_set_update_loop ?_
    rw [Around.under_plainId PyProof.Rows.F.plain_set_update_loop _]
    show wpAny _ A.in1 (pyNext (.ref I) >>= _) _ _ s
    refine wpAny_bind (W.done s _ _ hst fun s' mv => ?_)
    show wpAny _ A.in1 (ret Value.none) _ _ s'
    rw [List.take_of_length_le (by omega : xs.length ≤ i)] at hS
    exact wpAny_pure (hR s' c (mv.mono sub) hc (hS.at fun o e => mv.heap a o naw e))
  | succ k ih =>
    intro i s hk hi hst ⟨c, hc, hS⟩ hR
    have lt : i < n := by omega
    refine codeAny_builtin PyProof.Rows.F.entry_set_update_loop ?_
    rw [Around.under_plainId PyProof.Rows.F.plain_set_update_loop _]
    show wpAny _ A.in1 (pyNext (.ref I) >>= _) _ _ s
    refine wpAny_bind (W.item i s _ _ lt hst fun v s' hv hst' mv => ?_)
    obtain ⟨x, tx, hx, rfl⟩ := hval i v hv
    have hS1 : StS P w s'.heap a (fun y => decide (y ∈ xs.take i)) c := hS.at fun o e => mv.heap a o naw e
    show wpAny _ A.in1 (holding [Value.str x tx] (setAdd a (.str x tx)) >>= _) _ _ s'
    refine wpAny_bind (wpAny_holding ?_)
    unfold setAdd
    refine wpAny_holding (wpAny_bind ((PySem.strKind P w).pyHash (k := x) (strKind_is _ _ _ _) ?_))
    refine sts_add (s := { s' with toks := s'.toks + 1 }) hS1 (by omega) fun hp but hS2 => ?_
    have hS3 : StS P w hp a (fun y => decide (y ∈ xs.take (i + 1))) (if decide (x ∈ xs.take i) = true then c else c + 1) := hS2.congr fun y => by
      rw [List.take_add_one, hx]
      simp [List.mem_append]
    have le3 : (if decide (x ∈ xs.take i) = true then c else c + 1) ≤ i + 1 := by
      split <;> omega
    have oth : ∀ b o, b ≠ a → s'.heap.get? b = some o → hp.get? b = some o := fun b o nb e => by rw [but.2 b nb]; exact e
    refine wpAny_pure ⟨plainId_quiet PyProof.Rows.F.plain_set_update_loop _, ih (i + 1) _ (by omega) lt (W.frame _ s' _ _ hst' (Nat.le_succ _) fun b hb o e => oth b o (fun z => ha (by rw [← z]; exact hb)) e) ⟨_, le3, hS3⟩ fun s2 c2 mv2 hc2 hS4 => ?_⟩
    exact hR s2 c2 (Moved.trans W.gtrans ((mv.mono sub).then_heap (Nat.le_succ _) fun b o nb e => oth b o (fun z => nb (by rw [z]; exact List.mem_cons_self)) e) mv2) hc2 hS4
theorem call_set_texts {l : Addr} {items : Array Value} (xs : List Str) {Q : Value → Shared → Prop} (hh : A.handled = none) (hl : s.heap.IsList l items) (hit : StrsAre items.toList xs) (hb : xs.length + 1 < scanBound)
    (h : ∀ (hp : Heap) (tk c : Nat), StS P w hp s.heap.objs.size (fun x => decide (x ∈ xs)) c → c ≤ xs.length → (∀ b o, s.heap.get? b = some o → hp.get? b = some o) → Q (.ref s.heap.objs.size) { s with heap := hp, toks := tk }) :
    wpAny (model P w) A (call (.type "set") [.ref l]) Q E s := by
  have isz : items.size = xs.length := by
    have z := StrsAre.len_eq hit
    rw [Array.length_toList] at z
    exact z
  obtain ⟨c0, tl, hmro⟩ := PySem.F.called_set.mro
  have made := PySem.F.called_set.made
  have subs := PySem.F.called_set.sub
  refine wpAny_call (codeAny_of_tree ?_)
  show wpAny _ _ (callAny (.type "set") _) _ _ _
  refine wpAny_pure ⟨Code.quiet_builtin _ (by decide +kernel), codeAny_builtin PySem.F.entry_type_call ?_⟩
  rw [Around.under_plain (weight_type_call_type "set" [.ref l] []) rfl]
  have g1 := PySem.F.called_set.notType
  have g2 := PySem.F.called_set.canCreate
  have g3 := PySem.F.typeCall_set_1 (.ref l)
  repeat (any_goals (first | assumption | wp_step))
  refine codeAny_mono (code_set_led1 (.ref l) (E := E) (Q₁ := fun obj s₁ => obj = .ref s.heap.objs.size ∧ s₁ = { s with heap := s.heap.push (freshSet w) }) ⟨rfl, rfl⟩) fun r s₁ hr => ?_
  cases r with
  | error e => exact hr
  | ok fl =>
    cases fl with
    | ret obj =>
      obtain ⟨rfl, rfl⟩ := hr
      have atS : (s.heap.push (freshSet w)).get? s.heap.objs.size = some (freshSet w) := Heap.get?_push_size _ rfl
      have tyS : Shared.TypeIs { s with heap := s.heap.push (freshSet w) } (.ref s.heap.objs.size) "set" := ⟨_, atS, rfl⟩
      have li := PySem.F.called_set.init.lookup
      have bi := PySem.F.called_set.init.bind (.ref s.heap.objs.size)
      repeat (any_goals (first | assumption | wp_step))
      refine codeAny_mono (codeAny_call_builtin (R := wants (fun r s₂ => r = .none ∧ ∃ hp tk c, s₂ = { s with heap := hp, toks := tk } ∧ StS P w hp s.heap.objs.size (fun x => decide (x ∈ xs)) c ∧ c ≤ xs.length ∧
          (∀ b o, s.heap.get? b = some o → hp.get? b = some o)) E) PySem.F.called_set.init.plain PySem.F.entry_set_init (check_set_init_1 tyS ?_)) fun r₂ s₂ hr₂ => ?_
      · obtain ⟨ol, hol, hcl, nl, hdl⟩ := hl
        obtain ⟨ocls, odict, odata, oslots⟩ := ol
        simp only at hcl hdl
        subst hcl; subst hdl
        have hol2 : (s.heap.push (freshSet w)).get? l = some { cls := .type "list", dict := odict, data := .seq items nl, slots := oslots } := Heap.get?_push_of_some _ hol
        have m1 := PySem.F.sub_list_set
        have m2 := PySem.F.sub_list_frozenset
        have m3 : (Value.type "list" == Value.type "dict") = false := by decide
        have isl : (s.heap.push (freshSet w)).IsList l items := ⟨_, hol2, rfl, nl, rfl⟩
        unfold Builtin.«set.__init__» noKeywords Builtin.Frozenset.updateFrom
        generalize hPI : pyIter = PI
        wp_walk
        subst hPI
        refine wpAny_pyIter_list isl ?_
        refine wpAny_bind (wpAny_runValue ?_)
        have lS : l < s.heap.objs.size := Heap.lt_size hol
        have hh3 : A.in1.in1.in1.handled = none := by simp [hh]
        have sz1 : (s.heap.push (freshSet w)).objs.size = s.heap.objs.size + 1 := Heap.size_push ..
        have neI : l ≠ (s.heap.push (freshSet w)).objs.size := by rw [sz1]; exact Nat.ne_of_lt (Nat.lt_succ_of_lt lS)
        have nfS : s.heap.objs.size ∉ [(s.heap.push (freshSet w)).objs.size, l] := by
          rw [sz1]
          simp only [List.mem_cons, List.not_mem_nil, or_false, not_or]
          exact ⟨Nat.ne_of_lt (Nat.lt_succ_self _), Nat.ne_of_gt lS⟩
        refine update_strs ((Walks.list hh3 _ l neI items).toS) s.heap.objs.size nfS xs isz hb (fun i v hv => strs_item hit (by rw [Array.getElem?_toList]; exact hv)) (items.size - 0) 0 _ (by omega) (Nat.zero_le _)
          ⟨⟨_, Heap.get?_push_size _ rfl, rfl, rfl⟩, (isl.push _)⟩ ⟨0, Nat.le_refl 0, sts_fresh (Heap.get?_push_of_some _ atS)⟩ ?hR
        case hR =>
          intro s' c' mv le' hS'
          obtain ⟨hp, gn, dr, tk', os'⟩ := s'
          obtain rfl : gn = s.gens := mv.gens
          obtain rfl : dr = s.drawn := mv.drawn
          obtain rfl : os' = s.os := mv.os
          show wpAny _ _ _ _ _ _
          refine wpAny_pure ?_
          show wpAny _ _ (ret Value.none) _ _ _
          rw [isz] at le'
          refine wpAny_pure ⟨rfl, hp, tk', c', rfl, hS', le', fun b o e => ?_⟩
          have b0 : b < s.heap.objs.size := Heap.lt_size e
          exact mv.heap b o (by rw [sz1]; simp only [List.mem_cons, List.not_mem_nil, or_false, not_or]; exact ⟨Nat.ne_of_lt b0, Nat.ne_of_lt (Nat.lt_succ_of_lt b0)⟩) (Heap.get?_push_of_some _ (Heap.get?_push_of_some _ e))
      · cases r₂ with
        | error e => exact hr₂
        | ok fl₂ =>
          cases fl₂ with
          | ret r =>
            obtain ⟨rfl, hp, tk, c', rfl, hS', le', k'⟩ := hr₂
            repeat (any_goals (first | assumption | wp_step))
            exact h _ _ _ hS' le' k'
          | _ => exact hr₂.elim
    | _ => exact hr.elim
/-- sorted of a set of texts: its members, rising -/
theorem sorted_sts {S : Str → Bool} {n : Nat} {Q : Value → Shared → Prop} {a : Addr} (R : StS P w s.heap a S n) (hh : A.handled = none)
    (hQ : ∀ s' p (out : List Value) (c : Nat) (ys : List Str), (∀ b o, s.heap.get? b = some o → s'.heap.get? b = some o) → s'.gens = s.gens → s'.os = s.os → s.heap.objs.size ≤ p →
      s'.heap.get? p = some (seqObj "list" out.toArray c) → StrsAre out ys → upS ys → ys.Nodup → (∀ x, x ∈ ys ↔ S x = true) → ys.length = n → Q (.ref p) s') :
    wpAny (model P w) A (call (.builtin "sorted") [.ref a]) Q E s := by
  obtain ⟨o, es, ep, t, ho, hex, hd, D⟩ := R
  refine Calls.call_function_entry kind_sorted plain_sorted entry_sorted (args_sorted1 _) ?_
  unfold Builtin.«sorted»
  refine wpAny_bind (m := checkCount "sorted" 1 1 _) (wpAny_pure ?_)
  refine wpAny_bind (collect_set (A := A.in1) hh ⟨o, ho, hex.1, hd⟩ D.fit D.small D.ris D.led fun s1 vs k1 hz g1 o1 pm => ?_)
  have vl : vs.length = n := by rw [pm.length_eq, List.length_map, Array.length_toList]; exact D.size
  have hI : StrsAre vs (vs.map strOf) := strsAre_map vs fun v hv => by
    obtain ⟨e, he, q⟩ := List.mem_map.mp (pm.mem_iff.mp hv)
    obtain ⟨x, tx, e1, _⟩ := D.gd e he
    exact ⟨x, tx, by rw [← q]; exact e1⟩
  have pk : (vs.map strOf).Perm (es.toList.map kyS) := by
    have q := pm.map strOf
    rw [List.map_map] at q
    exact q
  have small : n < scanBound := by rw [← D.size]; exact D.small
  have vz : vs.length ≤ sizeLine := by rw [vl]; exact Nat.le_trans (Nat.le_of_lt small) (by decide)
  refine wpAny_bind (wpAny_newList ?_ vz)
  have oL : (s1.heap.push (seqObj "list" vs.toArray 0)).get? s1.heap.objs.size = some (seqObj "list" vs.toArray 0) := Heap.get?_push_size _ rfl
  refine wpAny_bind (wpAny_holding (wpAny_call_entry slot_list_sort ⟨_, oL, rfl⟩ entry_list_sort (SrtO.list_sort_ord ltS_swo oL vz (fun h2 => strs_sortable hI h2) fun out h1 h2 => ⟨.none, rfl, ?_⟩) (args_list_sort _)))
  obtain ⟨c, hc⟩ := sortedHeap_at (vs := vs) (out := out.toArray) oL
  obtain ⟨a1, a2, a3⟩ := strs_out hI h1 h2
  have pn : (out.map strOf).Perm (es.toList.map kyS) := a2.trans pk
  refine wpAny_pure ⟨_, rfl, hQ _ s1.heap.objs.size out c (out.map strOf) (fun b u e => ?_) g1 o1 hz hc a1 a3 (pn.nodup_iff.mpr D.nd) (fun x => by rw [pn.mem_iff, ← D.mem x]) ?_⟩
  · have q := k1 b u e
    have lt := Heap.lt_size q
    show (sortedHeap (s1.heap.push (seqObj "list" vs.toArray 0)) s1.heap.objs.size vs out.toArray).get? b = some u
    rw [sortedHeap_old (Nat.ne_of_lt lt) (by rw [size_push']; exact Nat.lt_succ_of_lt lt)]
    exact Heap.get?_push_of_some _ q
  · rw [pn.length_eq, List.length_map, Array.length_toList]; exact D.size
end
end StrT
set_option Elab.async false
set_option linter.all false
set_option maxRecDepth 100000
set_option maxHeartbeats 1000000
namespace L2
open PySem PySem.Spec PyProof.Rows StrO StrT
/-- sorted(set(xs)), xs a list of texts -/
def tSortSet (K : PySem.W.Frag) (ta : TE) : TE := fun σ H Q => ta σ H fun x H1 => ∃ (l : Addr) (xs : List Str), x = .ref l ∧ SqL K H1 l (xs.map V.str) ∧ xs.length ≤ 4000 ∧
  ∀ (ys : List Str) (p : Addr), upS ys → ys.Nodup → (∀ z, z ∈ ys ↔ z ∈ xs) → ys.length ≤ xs.length → H1 p = none → Q (.ref p) (upd H1 p (.lst (ys.map V.str)))
theorem pe_sortSet {X : Cx} {a : Expr} {ta : TE} {p p2 q pos : Pos} (hg : Gl X "sorted") (hm : X.mg "sorted" = none) (hg2 : Gl X "set") (hm2 : X.mg "set" = none) (ha : PE X a ta) (hb : bootBuiltins "sorted" = some (.builtin "sorted") := by decide +kernel) (hc : X.calm = true := by rfl)
    (na : starEach [a] X.env = (false, eval a X.env) :: starEach [] X.env := by rfl) : PE X (.Call (.Name "sorted" p) [.Call (.Name "set" p2) [a] [] q] [] pos) (tSortSet X.K ta) := by
  refine ⟨fun pins s σ H Q I h => ?_⟩
  refine Call_ (ld_blt I hg hm hb ?_)
  refine PyProof.Rows.callWith_builtin1 (PyProof.Rows.args_cons ?_ rfl) rfl rfl
  refine Call_ (ld_blt I hg2 hm2 boot_set ?_)
  refine PyProof.Rows.callWith_type1 (PyProof.Rows.args_cons (thn (ha.run pins s σ H _ I h) fun v s1 ⟨x, H1, I1, r1, q1⟩ => PyProof.Rows.args_nil ?_) na) na rfl
  obtain ⟨l, xs, rfl, hq, hz, q1⟩ := q1
  cases r1
  obtain ⟨its, r, pl, _⟩ := I1.list hq
  refine call_set_texts xs (I1.ok.hd hc) pl.isList (by simpa using r.strs) (by unfold scanBound; omega) fun h' tk c hS hcl hk => ?_
  refine PyProof.Rows.args_nil ?_
  have I2 : Inv X pins σ H1 { s1 with heap := h', toks := tk } := I1.kept hk
  have hS : StS X.prog X.w ({ s1 with heap := h', toks := tk } : Shared).heap s1.heap.objs.size (fun x => decide (x ∈ xs)) c := hS
  generalize s1.heap.objs.size = aS at hS ⊢
  generalize ({ s1 with heap := h', toks := tk } : Shared) = s2 at I2 hS ⊢
  refine sorted_sts hS (I2.ok.hd hc) fun s' p out cc ys k g o hp hg2 hi up nd mem len => ?_
  have hlen : (ys.map V.str).length ≤ sizeLine := by rw [List.length_map, len]; exact Nat.le_trans (Nat.le_trans hcl hz) (by decide)
  have hn : H1 p = none := I2.hok.fresh hp
  have J : Inv X pins σ (upd H1 p (.lst (ys.map V.str))) { s2 with heap := s'.heap, gens := s'.gens, drawn := s'.drawn, toks := s'.toks } :=
    I2.call (ch := []) (Un.laid k hp hn) (I2.hok.laid k hp ⟨hlen, out, cc, vals_of_strs hi, hg2⟩) (by rw [g]; exact I2.bare) (fun _ z => nomatch z)
  have e : s' = { s2 with heap := s'.heap, gens := s'.gens, drawn := s'.drawn, toks := s'.toks } := by
    cases s'
    cases s2
    cases o
    rfl
  rw [e]
  exact ⟨.ref p, _, J, rfl, q1 ys p up nd (fun z => by rw [mem z, decide_eq_true_eq]) (by rw [len]; exact hcl) hn⟩
/-! ### rising texts are told by their members -/
theorem up_lt {x y : Str} (h : ¬ y.cps.toList < x.cps.toList) (n : x ≠ y) : x.cps.toList < y.cps.toList := by
  rw [List.not_lt] at h
  have e : x.cps.toList ≠ y.cps.toList := fun z => n (by
    cases x with
    | mk a => cases y with
      | mk b => exact congrArg Str.mk (by simpa using z))
  rcases Decidable.em (x.cps.toList < y.cps.toList) with g | g
  · exact g
  · exact absurd (List.le_antisymm h (List.not_lt.mp g)) e
theorem up_eq : ∀ {xs ys : List Str}, upS xs → xs.Nodup → upS ys → ys.Nodup → (∀ z, z ∈ xs ↔ z ∈ ys) → xs = ys
  | [], [], _, _, _, _, _ => rfl
  | [], y :: ys, _, _, _, _, h => absurd ((h y).2 List.mem_cons_self) (fun z => nomatch z)
  | x :: xs, [], _, _, _, _, h => absurd ((h x).1 List.mem_cons_self) (fun z => nomatch z)
  | x :: xs, y :: ys, u, n, u', n', h => by
    obtain ⟨a1, a2⟩ := List.pairwise_cons.mp u
    obtain ⟨b1, b2⟩ := List.pairwise_cons.mp u'
    obtain ⟨c1, c2⟩ := List.nodup_cons.mp n
    obtain ⟨d1, d2⟩ := List.nodup_cons.mp n'
    have e : x = y := by
      by_cases g : x = y
      · exact g
      · exfalso
        have hx : x ∈ ys := (List.mem_cons.mp ((h x).1 List.mem_cons_self)).resolve_left g
        have hy : y ∈ xs := (List.mem_cons.mp ((h y).2 List.mem_cons_self)).resolve_left fun z => g z.symm
        exact absurd (up_lt (a1 y hy) g) (b1 x hx)
    subst e
    rw [up_eq a2 c2 b2 d2 fun z => ?_]
    have q := h z
    rw [List.mem_cons, List.mem_cons] at q
    constructor
    · intro m
      exact (q.1 (.inr m)).resolve_left fun e => c1 (e ▸ m)
    · intro m
      exact (q.2 (.inr m)).resolve_left fun e => d1 (e ▸ m)
end L2
set_option Elab.async false
set_option linter.all false
set_option maxRecDepth 100000
set_option maxHeartbeats 2000000
namespace Toy
open PySem L2 StrO
abbrev sIsKind : Stmt := top 15
/-! no depth_of_kind here -/
abbrev absent_depth_of_kind : Nat := 0 -- abbrev sDeep : Stmt := top 13
/-! no parts_of_kind here -/
abbrev absent_parts_of_kind : Nat := 0 -- abbrev sMany : Stmt := top 14
/-! no names_in here -/
abbrev absent_names_in : Nat := 0 -- abbrev sNames : Stmt := top 15
abbrev sNmAm : Stmt := top 16
/-! no parts_known here -/
abbrev absent_parts_known : Nat := 0 -- abbrev sKnown : Stmt := top 17
/-- a kind: what is asked of it -/
def KdOf (K : PySem.W.Frag) (m : Nat) (H : Hp) (v : V) (d : PyData) : Prop := Dq K H v d ∧ txtB d = true ∧ d.depth ≤ m ∧ kdB m d = true
def spIk (K : PySem.W.Frag) (m : Nat) : Sp := fun vs H Q _ => ∃ (v : V) (d : PyData), vs = [v] ∧ Dq K H v d ∧ txtB d = true ∧ d.depth ≤ m ∧ ∀ H', Same H H' → Q (.bl (kdB m d)) H'
def spNa (K : PySem.W.Frag) : Sp := fun vs H Q _ => ∃ (l : Addr) (fs : List V) (G : Hp) (ps : List (PyData × Nat)), vs = [.ref l] ∧ H l = some (.lst fs) ∧ Rows K G H fs ps ∧ Same G H ∧ ps.length ≤ 3000 ∧ (∀ p ∈ ps, Frm p.1) ∧
  ∀ D H', Same H H' → H' D = some (.lst ((nmsOf ps).map V.str)) → Q (.ref D) H'
structure Ng (mg : Str → Option Value) : Prop where
  sorted : mg "sorted" = none
  set : mg "set" = none
  max : mg "max" = none
theorem rows_get {K : PySem.W.Frag} {G H : Hp} : ∀ {vs : List V} {ps : List (PyData × Nat)} {i : Nat} {v : V}, Rows K G H vs ps → vs[i]? = some v → ∃ p, ps[i]? = some p ∧ Row K G H v p
  | [], _, i, v, _, h => by simp at h
  | _ :: _, [], _, _, r, _ => r.elim
  | x :: vs, p :: ps, 0, v, r, h => by cases h; exact ⟨p, rfl, r.1⟩
  | x :: vs, p :: ps, i + 1, v, r, h => rows_get (vs := vs) (ps := ps) (i := i) r.2 h
theorem names_le (ps : List (PyData × Nat)) : (nmsOf ps).length ≤ ps.length := by
  induction ps with
  | nil => exact Nat.le_refl _
  | cons p r ih =>
    unfold nmsOf at ih ⊢
    rw [List.flatMap_cons, List.length_append, List.length_cons]
    have : (nameOf p.1).length ≤ 1 := by
      unfold nameOf
      split
      · exact Nat.le_refl 1
      · exact Nat.zero_le _
    omega
theorem nms_app (a b : List (PyData × Nat)) : nmsOf (a ++ b) = nmsOf a ++ nmsOf b := List.flatMap_append
section
variable {P : Program} {w : World} {K : PySem.W.Frag} {mg : Str → Option Value} {base : Heap} {m : Nat}
theorem scIk : FnScope ["value"] ["value"] (defScope sIsKind) := ⟨rfl, rfl, rfl, by decide +kernel, rfl, by decide +kernel, by decide +kernel⟩
theorem ok_iskind {f g : Addr} {fd gd : FuncData} (F : Fun K "is_kind" "is_kind" sIsKind f fd) (PF : Gv P w K mg base 4 "parts_found" g gd ["value"] (spPf K)) : FnOk P w K mg base CX0 5 f fd ["value"] (spIk K m) := by
  refine F.ok scIk (fun vs H Q E h => ?_) (fun cdv A outer s H vs Q E hr h => ?_)
  · obtain ⟨v, d, rfl, _⟩ := h
    rfl
  obtain ⟨v, d, rfl, hd, ht, hdp, q⟩ := h
  refine ⟨_, pss_one (ps_ret (pe_cmpR op_notN (pe_call PF.ok hr rfl PF.m PF.k PF.b .nil pass0 (pa_cons (pv 0) pa_nil)) pe_non (nomark _))), ?_⟩
  refine ⟨_, rfl, v, d, H, rfl, Same.refl H, hd, ht, fun u H1 s1 res => ?_⟩
  rw [pf_kd hdp] at res
  cases hk : kdB m d with
  | true =>
    rw [hk, if_pos rfl] at res
    obtain ⟨l, fs, rfl, hl, hR⟩ := res
    have z := q H1 s1
    rw [hk] at z
    exact ⟨rfl, z⟩
  | false =>
    rw [hk] at res
    obtain rfl : u = .non := res
    have z := q H1 s1
    rw [hk] at z
    exact ⟨rfl, z⟩
end
end Toy
set_option Elab.async false
set_option linter.all false
set_option maxRecDepth 100000
set_option maxHeartbeats 2000000
namespace Toy
open PySem L2 StrO
section
variable {P : Program} {w : World} {K : PySem.W.Frag} {mg : Str → Option Value} {base : Heap} {m : Nat}
theorem scNa : FnScope ["parts", "part", "depth"] ["parts"] (defScope sNmAm) := ⟨rfl, rfl, rfl, by decide +kernel, rfl, by decide +kernel, by decide +kernel⟩
theorem frm_name {d : PyData} (h : Frm d) : ∃ w r, d = .tuple (.str w :: r) ∧ ((w1 w = true ∧ ∃ x, r = [.str x] ∧ nameOf d = [x]) ∨ (w1 w = false ∧ nameOf d = [])) := by
  rcases h with ⟨w, rfl, b⟩ | ⟨w, x, rfl, b⟩ | ⟨w, a, c, rfl, b⟩
  · exact ⟨w, _, rfl, .inr ⟨b, rfl⟩⟩
  · exact ⟨w, _, rfl, .inl ⟨b, x, rfl, rfl⟩⟩
  · exact ⟨w, _, rfl, .inr ⟨b, by cases a <;> rfl⟩⟩
theorem ok_nmam {f : Addr} {fd : FuncData} (F : Fun K "names_among" "names_among" sNmAm f fd) : FnOk P w K mg base CX0 1 f fd ["parts"] (spNa K) := by
  refine F.ok scNa (fun vs H Q E h => ?_) (fun cdv A outer s H vs Q E hr h => ?_)
  · obtain ⟨l, fs, G, ps, rfl, _⟩ := h
    rfl
  obtain ⟨l, fs, G, ps, rfl, hl, hR, sG, hz, hf, q⟩ := h
  refine ⟨_, pss_one (ps_ret (pe_lc (own := [("part", 1), ("depth", 2)]) (g := gTup K 2 (gCons (gName 1) (gCons (gName 2) gNil))) (tt := tTest (tOp rEq (tOp (rIxT K) (tVar 1) (tC (.int 0))) (tC (.str "name")))) (te := tOp (rIxT K) (tVar 1) (tC (.int 1))) rfl scNa.nd (pi_list (pv 0)) (blkOk_by (own := [("part", 1), ("depth", 2)]) (N := ["parts", "part", "depth"]) (sc := defScope sNmAm) (by decide +kernel))
        (fun _ _ _ _ _ => pg_tup rfl (pgs_cons (pg_name (i := 1) scNa.nd rfl (.inl rfl)) (pgs_cons (pg_name (i := 2) scNa.nd rfl (.inl rfl)) pgs_nil))) (fun _ _ _ _ _ => pts_one (pt_cmpR op_eq (pe_ix ix_tup (pv 1) pe_int (fun _ _ => rfl)) pe_str (nomark _))) (fun _ _ _ _ _ => pe_ix ix_tup (pv 1) pe_int (fun _ _ => rfl)))), ?_⟩
  refine ⟨_, rfl, l, rfl, ⟨_, SqL.of hl⟩, fun D nD => ?_⟩
  have hfl := hR.len
  refine lc_it (walk_list (xs := fs)) (fun i H2 => Same H H2 ∧ H2 D = some (.lst ((nmsOf (ps.take i)).map V.str))) ⟨same_new nD _, upd_same⟩ (fun i H2 _ z => SqL.of (z.1 _ _ hl)) ?_ ?_
  · rintro i y H2 _ hi ⟨s2, hD⟩ ⟨rfl, hy⟩
    obtain ⟨p, hp, ⟨t, x, rfl, hT, hx, _⟩⟩ := rows_get hR hy
    refine ⟨t, _, rfl, SqT.of (s2 _ _ hT), rfl, _, _, rfl, _, _, rfl, rfl, rfl, ?_⟩
    obtain ⟨w, r, ed, cs⟩ := frm_name (hf p (List.mem_of_getElem? hp))
    have e0 : nmsOf (ps.take (i + 1)) = nmsOf (ps.take i) ++ nameOf p.1 := by
      rw [List.take_add_one, hp, nms_app]
      show _ ++ nmsOf [p] = _
      unfold nmsOf
      rw [List.flatMap_singleton]
    rw [ed] at hx
    obtain ⟨ad, xs, rfl, hxs, hA⟩ := dq_tuple hx
    obtain ⟨x0, rs, rfl, g0, hA1⟩ := dqAll_cons hA
    obtain rfl := dq_str g0
    have hxs' := (sG.trans s2).seqT hxs
    refine ⟨_, rfl, ad, _, 0, _, rfl, rfl, hxs', atI_nat (j := 0) rfl, rfl, _, rfl, ?_⟩
    rcases cs with ⟨hw, x, rfl, en⟩ | ⟨hw, en⟩
    · obtain ⟨x1, rs, rfl, g1, hA2⟩ := dqAll_cons hA1
      obtain rfl := dq_str g1
      refine ite2 (fun _ => ?_) (fun z => absurd (show w1 w = true from hw) z)
      refine ⟨_, rfl, ad, _, 1, _, rfl, rfl, hxs', atI_nat (j := 1) rfl, _, hD, ?_, fun b o e => by rw [upd_ne (ne_of_none e nD)]; exact s2 _ _ e, ?_⟩
      · rw [List.length_map]
        exact Nat.lt_of_le_of_lt (Nat.le_trans (names_le _) (Nat.le_trans (List.length_take_le _ _) (by omega : i ≤ 3000))) (by decide)
      · rw [upd_same, e0, en, List.map_append]
        rfl
    · refine ite2 (fun z => absurd (show w1 w = true from z) (by rw [hw]; decide)) (fun _ => ?_)
      exact ⟨s2, by rw [e0, en, List.append_nil]; exact hD⟩
  · rintro H2 ⟨s2, hD⟩
    rw [hfl, List.take_length] at hD
    exact q D H2 s2 hD
theorem kd_form {d : PyData} (h : kdB m d = true) : fB m d = true := by
  unfold kdB at h
  simp only [Bool.and_eq_true] at h
  exact h.1
end
end Toy
set_option Elab.async false
set_option linter.all false
set_option maxRecDepth 100000
set_option maxHeartbeats 1000000
namespace L2
open PySem PySem.Spec PyProof.Rows
/-! ### repr of any drawn data -/
def rRepA (K : PySem.W.Frag) : List V → Hp → VK → Prop := fun xs H Q => ∃ (v : V) (d : PyData), xs = [v] ∧ Dq K H v d ∧ d.showable = true ∧ d.shown.length ≤ sizeLine ∧ d.depth ≤ 300 ∧ Q (.str d.shown) H
theorem call_repA {X : Cx} (hu : X.A.units + 400 < cLine) (hg : X.A.guards = some []) : CallR X (.builtin "repr") (rRepA X.K) := by
  intro pins s σ H xs us Q I r h
  obtain ⟨v, d, rfl, D, ok, hz, hdep, q⟩ := h
  cases r with
  | cons rx rr =>
    cases rr
    have ru := rx
    have fin : ∀ (h' : Heap) (u : Tok) (tk : Nat), (∀ b o, s.heap.get? b = some o → h'.get? b = some o) → EP X pins σ Q (.str d.shown u) { s with heap := h', toks := tk } := fun h' u tk k => ⟨.str _, H, I.kept (t' := tk) k, ⟨u, rfl⟩, q⟩
    obtain ⟨as, R⟩ := Dq.reads I _ _ _ D ru
    cases d with
    | none =>
      cases D
      cases rx
      have z := fin s.heap s.toks (s.toks + 1) (fun _ _ e => e)
      simp only [PyData.shown] at z
      exact PySem.P.repr_of_none z
    | bool b =>
      cases D
      cases rx
      have z := fin s.heap s.toks (s.toks + 1) (fun _ _ e => e)
      simp only [PyData.shown] at z
      exact PySem.P.repr_of_bool z
    | int i =>
      cases D
      obtain ⟨t, rfl⟩ := rx
      have z := fin s.heap s.toks (s.toks + 1) (fun _ _ e => e)
      simp only [PyData.shown] at z
      exact PySem.P.repr_of_int (by simpa [PyData.showable] using ok) z
    | str x =>
      cases D
      obtain ⟨t, rfl⟩ := rx
      have z := fin s.heap s.toks (s.toks + 1) (fun _ _ e => e)
      simp only [PyData.shown] at z hz
      exact PySem.P.repr_of_str z hz
    | list ds =>
      cases D with
      | @lst _ xs _ hs ha =>
        cases rx
        have zt : (listText (PyData.shownAll ds)).length ≤ sizeLine := by simpa only [PyData.shown] using hz
        simp only [PyData.shown] at fin
        obtain ⟨its, rv, ⟨o, n, ho, hc, _, hd⟩, _⟩ := I.list hs
        obtain ⟨bs, hb, hk⟩ := Dq.reprAll I ds _ its ha rv (by simpa [PyData.showable] using ok) fun t ht => Nat.le_trans (listText_mem_le ht) zt
        have off := not_mem_of_deeper R (show PyData.depthAll ds < (PyData.list ds).depth by simp only [PyData.depth]; omega) hb
        have dep : PyData.depthAll ds + 1 ≤ 300 := by simp only [PyData.depth] at hdep; omega
        refine call_repr_slot (by omega) ⟨o, ho, hc⟩ PySem.F.slot_list_repr.toG ?_
        cases its with
        | nil =>
          have e : PyData.shownAll ds = [] := List.eq_nil_of_length_eq_zero (by simpa using hk.length_eq)
          have z := fin s.heap s.toks (s.toks + 1) (fun _ _ e => e)
          rw [e, listText_nil] at z
          exact call_list_repr_empty ⟨o, ho, hc⟩ ho hd ⟨_, _, rfl, z⟩
        | cons x l =>
          exact call_list_reprK ho hc hd off (by simpa using hk.length_eq) (fun i y e => hk.item i y (by simpa using e)) hg (fun b _ => Clear.nil b) (by show X.A.units + 1 + _ < cLine; omega) (fun _ _ e => e) (fun h' u tk k => ⟨_, _, rfl, fin h' u tk k⟩) zt
    | tuple ds =>
      cases D with
      | @tup _ xs _ hs ha =>
        cases rx
        have zt : (tupleText (PyData.shownAll ds)).length ≤ sizeLine := by simpa only [PyData.shown] using hz
        simp only [PyData.shown] at fin
        obtain ⟨its, rv, ⟨o, ho, hc, n, hd⟩, _⟩ := I.tuple hs.seqT
        obtain ⟨bs, hb, hk⟩ := Dq.reprAll I ds _ its ha rv (by simpa [PyData.showable] using ok) fun t ht => Nat.le_trans (tupleText_mem_le ht) zt
        have off := not_mem_of_deeper R (show PyData.depthAll ds < (PyData.tuple ds).depth by simp only [PyData.depth]; omega) hb
        have dep : PyData.depthAll ds + 1 ≤ 300 := by simp only [PyData.depth] at hdep; omega
        refine call_repr_slot (by omega) ⟨o, ho, hc⟩ PySem.F.slot_tuple_repr ?_
        exact call_tuple_reprK ho hc hd off hk hg (fun b _ => Clear.nil b) (by show X.A.units + 1 + _ < cLine; omega) (fun _ _ e => e) (fun h' u tk k => ⟨_, _, rfl, fin h' u tk k⟩) zt
    | dict kvs =>
      cases D with
      | dic h =>
        cases rx
        obtain ⟨o, n, ho, hc, hd, hsys⟩ := dic_at I h
        simp only [PyData.shown, PyData.shownKv] at fin hz
        refine call_repr_slot (by omega) ⟨o, ho, hc⟩ PySem.F.slot_dict_repr ?_
        exact call_dict_reprK (as := []) (d := 0) ho hc hd hsys (by simp) (by simpa using ReprEntriesK.nil) hg (fun b _ => Clear.nil b) (by show X.A.units + 1 + _ < cLine; omega) (fun _ _ e => e) (fun h' u tk k => ⟨_, _, rfl, fin h' u tk k⟩) hz
/-! ### f(k = v): by keywords alone -/
structure KBo (K : PySem.W.Frag) (fd : FuncData) (ps : List Str) : Prop where
  to : ∀ (s : Shared) (ws : List Value), ws.length = ps.length → BindsTo s fd ⟨[], ps.zip ws⟩ (ps.zip ws)
theorem Fun.bindsK {K : PySem.W.Frag} {x qual : Str} {st : Stmt} {f : Addr} {fd : FuncData} {ps : List Str} (F : Fun K x qual st f fd)
    (h : ∀ (kV doc pm : Value) (an : Option Addr) (cdv ct : Value) (ws : List Value), ws.length = ps.length → bindArgs (PySem.W.fnOf x qual (defArgs st) (defBody st) (defScope st) .none kV doc pm an cdv ct) ⟨[], ps.zip ws⟩ = pure (ps.zip ws)) : KBo K fd ps := by
  obtain ⟨oc, od, kV, doc, pm, an, cdv, ct, osl, rfl, lk, hcd⟩ := F.ex
  exact ⟨fun s ws hl => BindsTo.of_eq (h kV doc pm an cdv ct ws hl)⟩
def tCallKo (sp : Sp) (tk : TA) : TE := fun σ H Q => tk σ H fun zs H2 => sp zs H2 Q E0
theorem pe_callKo {X : Cx} {k : Nat} {f : Addr} {fd : FuncData} {ps : List Str} {sp : Sp} {x : Str} {p pos : Pos} {kws : List Keyword} {tk : TA} (F : FnOk X.prog X.w X.K X.mg X.base CX0 k f fd ps sp) (hr : Room k X.A) (hg : Gl X x) (hm : X.mg x = some (.ref f)) (hk : PySem.W.keepIn X.K (.ref f) = true) (hb : KBo X.K fd ps)
    (hkw : PK X kws tk) (hall : (backToKw pos (keywordEach kws X.env)).all (·.1.isSome) = true := by rfl) (hks : (backToKw pos (keywordEach kws X.env)).filterMap (·.1) = ps := by rfl) (hdb : (x == ("__debug__" : Str)) = false := by decide)
    (hpl : ((backTo pos (starEach [] X.env)).any (·.1) || (backToKw pos (keywordEach kws X.env)).any (·.1.isNone)) = false := by rfl) :
    PE X (.Call (.Name x p) [] kws pos) (tCallKo sp tk) := by
  refine ⟨fun pins s σ H Q I h => ?_⟩
  refine wpAny_Call_Name_kw (ld_glob I hg hm ?_ hdb)
  refine PySem.W.callWith_KW0 (h₀ := X.base) I.ok.mod.kin hk hall ?_ hpl
  refine thn (hkw.run pos pins s σ H _ I h) fun ws s2 ⟨zs, H2, I2, rz, q2⟩ => ⟨I2.kIn, ?_⟩
  rw [hks]
  have hl : ws.length = ps.length := by rw [← rz.length]; exact F.len _ _ _ _ q2
  refine wpAny_call (codeAny_mono (F.run X.A X.stack s2 H2 ⟨[], ps.zip ws⟩ ws zs Q E0 hr I2.env0 (hb.to s2 ws hl) rz q2) fun r s' hq => ?_)
  cases r with
  | error e => exact (pass0 (X := X)) pins σ H2 s2 e s' I2 hq
  | ok fl =>
    cases fl with
    | ret u => exact I2.after hq
    | next => exact False.elim hq
    | brk => exact False.elim hq
    | cont => exact False.elim hq
end L2
set_option Elab.async false
set_option linter.all false
set_option maxRecDepth 100000
set_option maxHeartbeats 1000000
/-! t[::-1] of a tuple; text times number -/
namespace HT
open PySem PySem.Spec PyProof.Rows
section
variable {prog : Program} {w : World} {A : Around} {E : Value → Shared → Prop} {s : Shared}
theorem applied_back {sl : Addr} {vk : Value} {n : Nat} {Q : Int × Int × Nat → Shared → Prop} (hs : s.heap.IsSliceOf sl .none .none vk) (pk : IsPart vk (some (-1)))
    (h : Q ((n : Int) - 1, -1, n) s) : wpAny (model prog w) A (Builtin.Slice.sliceApplied (.ref sl) (pure (n : Int))) Q E s := by
  obtain ⟨os, hos, hcs, hds⟩ := id hs
  unfold Builtin.Slice.sliceApplied Builtin.Slice.sliceFields
  refine wpAny_bind (wpAny_bind (wpAny_field hos hds (x := .none) rfl (wpAny_bind (wpAny_field hos hds (x := .none) rfl (wpAny_bind (wpAny_field hos hds (x := vk) rfl (wpAny_pure ?_)))))))
  refine wpAny_bind (slicePart_ pk ?_)
  show wpAny _ _ (if ((-1 : Int) == 0) = true then _ else _) _ _ s
  rw [if_neg (by decide)]
  refine wpAny_bind (slicePart_none (wpAny_bind (slicePart_none (wpAny_bind (wpAny_pure ?_)))))
  have e : Builtin.Slice.sliceAdjust none none (-1) (n : Int) = ((n : Int) - 1, -1) := by
    unfold Builtin.Slice.sliceAdjust
    rfl
  have e2 : Builtin.Slice.slicePlaces ((n : Int) - 1) (-1) (-1) = n := by
    unfold Builtin.Slice.slicePlaces
    have h1 : ¬ ((-1 : Int) > 0) := by decide
    rw [if_neg h1]
    by_cases h : (n : Int) - 1 > -1
    · rw [if_pos h, show (- -1 : Int) = 1 by decide, Int.ediv_one]
      omega
    · rw [if_neg h]
      omega
  show wpAny _ _ (match Builtin.Slice.sliceAdjust none none (-1) (n : Int) with | (lo, hi) => pure (lo, (-1 : Int), Builtin.Slice.slicePlaces lo hi (-1))) _ _ s
  rw [e]
  show wpAny _ _ (pure ((n : Int) - 1, (-1 : Int), Builtin.Slice.slicePlaces ((n : Int) - 1) (-1) (-1))) _ _ s
  rw [e2]
  exact wpAny_pure h
theorem fm_map {α β : Type} {f : α → Option β} {g : α → β} : ∀ {l : List α}, (∀ k ∈ l, f k = some (g k)) → l.filterMap f = l.map g
  | [], _ => rfl
  | x :: l, h => by
    rw [List.filterMap_cons_some (h x List.mem_cons_self), List.map_cons, fm_map fun k hk => h k (List.mem_cons_of_mem _ hk)]
theorem pick_back (xs : Array Value) : ((List.range xs.size).filterMap fun (k : Nat) => xs[((xs.size : Int) - 1 + (k : Int) * (-1)).toNat]?).toArray = xs.toList.reverse.toArray := by
  have e : (List.range xs.size).filterMap (fun (k : Nat) => xs[((xs.size : Int) - 1 + (k : Int) * (-1)).toNat]?) = xs.toList.reverse := by
    apply List.ext_getElem?
    intro i
    have key : (List.range xs.size).filterMap (fun (k : Nat) => xs[((xs.size : Int) - 1 + (k : Int) * (-1)).toNat]?) = (List.range xs.size).map (fun k => xs.toList.reverse.getD k .none) := by
      apply fm_map
      intro k hk
      have hk := List.mem_range.mp hk
      have ei : ((xs.size : Int) - 1 + (k : Int) * (-1)).toNat = xs.size - 1 - k := by omega
      rw [ei]
      have h2 : xs.size - 1 - k < xs.size := by omega
      rw [Array.getElem?_eq_getElem h2]
      show _ = some (xs.toList.reverse.getD k .none)
      congr 1
      have h3 : k < xs.toList.reverse.length := by rw [List.length_reverse, Array.length_toList]; exact hk
      rw [List.getD_eq_getElem?_getD, List.getElem?_eq_getElem h3, Option.getD_some, List.getElem_reverse]
      simp [Array.length_toList]
    rw [key, List.getElem?_map]
    by_cases hi : i < xs.size
    · rw [List.getElem?_range hi]
      have h3 : i < xs.toList.reverse.length := by rw [List.length_reverse, Array.length_toList]; exact hi
      show some (xs.toList.reverse.getD i .none) = _
      rw [List.getD_eq_getElem?_getD, List.getElem?_eq_getElem h3]
      rfl
    · rw [List.getElem?_eq_none (by rw [List.length_range]; omega), List.getElem?_eq_none (by rw [List.length_reverse, Array.length_toList]; omega)]
      rfl
  rw [e]
theorem getItem_tuple_back {t sl : Addr} {items : Array Value} {vk : Value} {Q : Value → Shared → Prop} (ht : IsTup s.heap t items) (hs : s.heap.IsSliceOf sl .none .none vk) (pk : IsPart vk (some (-1)))
    (h : Q (.ref s.heap.objs.size) { s with heap := s.heap.push { cls := .type "tuple", data := .seq items.toList.reverse.toArray } })
    (hsz : items.size ≤ sizeLine) : wpAny (model prog w) A (getItem (.ref t) (.ref sl)) Q E s := by
  have room : sizeOk (.seq items.toList.reverse.toArray) := by
    show items.toList.reverse.toArray.size ≤ sizeLine
    rw [List.size_toArray, List.length_reverse, Array.length_toList]
    exact hsz
  obtain ⟨os, hos, hcs, hds⟩ := id hs
  have tyS : s.TypeIs (.ref sl) "slice" := ⟨os, hos, hcs⟩
  unfold getItem
  try with_reducible refine wpAny_holding ?_
  first | refine wpAny_bind (wpAny_pure ?_) | skip
  refine wpAny_bind (wpAny_sequenceKey ht.typeIs (by decide) (wpAny_bind (wpAny_callSpecial?_slot (name := Str.ofString "__getitem__") ht.typeIs PyProof.Rows.slot_tuple_getitem
    (wpAny_call_entry PyProof.Rows.slot_tuple_getitem ht.typeIs entry_tuple_getitem ?_ (args_tuple_getitem _ _)))))
  show wpAny _ _ (Builtin.Tuple.tupleItemsOf (.ref t) >>= _) _ _ s
  refine wpAny_bind (tupleItemsOf_ ht (wpAny_bind (wpAny_typeOf tyS ?_)))
  rw [if_pos (by decide)]
  refine wpAny_bind (applied_back hs pk ?_)
  have no : ¬ (((((items.size : Nat) : Int) - 1 == 0) && ((-1 : Int) == 1) && (items.size == items.size)) = true) := by
    intro q
    rw [Bool.and_eq_true, Bool.and_eq_true] at q
    exact absurd q.1.2 (by decide)
  show wpAny _ _ (if ((((items.size : Nat) : Int) - 1 == 0) && ((-1 : Int) == 1) && (items.size == items.size)) = true then _ else _) _ _ s
  rw [if_neg no, pick_back]
  first
    | exact wpAny_bind (m := Builtin.Tuple.tupleExact _) (wpAny_newObj_type (wpAny_pure ⟨_, rfl, wpAny_pure h⟩) room)
    | exact wpAny_bind (m := Builtin.Tuple.tupleExact _) (wpAny_newObj_type (wpAny_bind (wpAny_pure (wpAny_pure ⟨_, rfl, wpAny_pure h⟩))) room)
    | exact wpAny_bind (wpAny_bind (m := Builtin.Tuple.tupleExact _) (wpAny_newObj_type (wpAny_pure (wpAny_pure ⟨_, rfl, wpAny_pure h⟩)) room))
    | exact wpAny_bind (wpAny_bind (m := Builtin.Tuple.tupleExact _) (wpAny_newObj_type (wpAny_pure ⟨_, rfl, wpAny_pure h⟩) room))
end
end HT
namespace L2
open PySem PySem.Spec PyProof.Rows
def tRevT (K : PySem.W.Frag) (te : TE) : TE := fun σ H Q => te σ H fun x H1 => ∃ a xs, x = .ref a ∧ SqT K H1 a xs ∧ ∀ p, H1 p = none → Q (.ref p) (upd H1 p (.tup xs.reverse))
theorem pe_revT {X : Cx} {e : Expr} {te : TE} {k : Nat} {p1 p2 p3 pos : Pos} (he : PE X e te) : PE X (.Subscript e (.Slice none none (some (.UnaryOp .USub (.Constant (.int 1) k p1) p2)) p3) pos) (tRevT X.K te) := by
  refine ⟨fun pins s σ H Q I h => ?_⟩
  refine Subscript_ (thn (he.run pins s σ H _ I h) fun v s1 ⟨x, H1, I1, r1, a, xs, ex, hx, q⟩ => ?_)
  subst ex
  cases r1
  have stp : PO X (some (.UnaryOp .USub (.Constant (.int 1) k p1) p2)) (tPart (tUn (rU fun i => .int (-i)) (tC (.int 1)))) := po_some (pe_un un_neg pe_int)
  refine wpAny_Slice (thn (po_none.run pins s1 σ H1 (fun o H2 => o = none ∧ H2 = H1) I1 ⟨rfl, rfl⟩) fun vl s2 ⟨l, H2, I2, pl, el, e2⟩ => ?_)
  subst el e2
  refine thn (po_none.run pins s2 σ H2 (fun o H3 => o = none ∧ H3 = H2) I2 ⟨rfl, rfl⟩) fun vu s3 ⟨u, H3, I3, pu, eu, e3⟩ => ?_
  subst eu e3
  refine thn (stp.run pins s3 σ H3 (fun o H4 => o = some (-1) ∧ H4 = H3) I3 ⟨1, rfl, -1, rfl, rfl, rfl⟩) fun vs s4 ⟨o, H4, I4, ps, eo, e4⟩ => ?_
  subst eo e4
  have I5 : Inv X pins σ H4 { s4 with heap := s4.heap.push { cls := .type "slice", data := .fields #[vl, vu, vs] } } := I4.kept (t' := s4.toks) fun b ob z => Heap.get?_push_of_some _ z
  obtain ⟨its, r, ht, hz⟩ := I5.tuple hx
  have hlen := r.length
  cases pl
  cases pu
  show wpAny (model X.prog X.w) X.A (subscriptTail e (.Slice none none (some (.UnaryOp .USub (.Constant (.int 1) k p1) p2)) p3) (.ref a) (.ref s4.heap.objs.size)) (EP X pins σ Q) X.xe _
  refine tail_any (ops := [.ref a, .ref s4.heap.objs.size]) ht.typeIs PyProof.Rows.slot_tuple_getitem.lookup ?_ (by with_unfolding_all rfl)
  refine HT.getItem_tuple_back ht (Heap.IsSliceOf.new _ _ _ vs) ps ?_ (by rw [List.size_toArray]; omega)
  refine ⟨.ref _, _, I5.laid (t' := s4.toks) (o := .tup xs.reverse) (fun b ob z => Heap.get?_push_of_some _ z) (Nat.le_refl _) ?_, rfl, q _ (I5.hok.fresh (Nat.le_refl _))⟩
  exact ⟨by rw [List.length_reverse]; exact hz, _, r.reverse, ⟨_, Heap.get?_push_size _ rfl, rfl, 0, rfl⟩⟩
/-- a sign's text, so often -/
def rMulS : R2 := fun x y H Q => ∃ (c : Nat) (n : Int), x = .str ⟨#[c]⟩ ∧ y = .int n ∧ n ≤ 1000 ∧ -1000 ≤ n ∧ Q (.str ⟨(List.replicate n.toNat c).toArray⟩) H
theorem rep_fold (c : Nat) : ∀ (n : Nat) (a : Array Nat), (List.replicate n #[c]).foldl (· ++ ·) a = a ++ (List.replicate n c).toArray
  | 0, a => by simp
  | n + 1, a => by
    rw [List.replicate_succ, List.foldl_cons, rep_fold c n, List.replicate_succ]
    apply Array.toList_inj.mp
    simp
theorem op_mulS {X : Cx} : OpR X (binaryOp .Mult) rMulS := by
  intro pins s σ H x y v u Q I rx ry h
  obtain ⟨c, n, rfl, rfl, h1, h2, q⟩ := h
  obtain ⟨t, rfl⟩ := rx
  obtain ⟨t2, rfl⟩ := ry
  refine PySem.P.mul_str ?_ (fun _ _ => ?_) (fun _ _ => ?_) ?_
  · rw [decide_eq_false (by omega), decide_eq_false (by omega)]
    rfl
  · have e1 : ((⟨#[c]⟩ : Str).length : Int) = 1 := rfl
    rw [e1]
    intro z
    have h0 : 1 ≤ n := by omega
    have : n ≤ (2 ^ 63 - 1) / n * n + n := by
      have := Int.mul_ediv_add_emod (2 ^ 63 - 1) n
      have m0 := Int.emod_nonneg (2 ^ 63 - 1) (show n ≠ 0 by omega)
      have m1 := Int.emod_lt_of_pos (2 ^ 63 - 1) (show 0 < n by omega)
      have e3 : n * ((2 ^ 63 - 1) / n) = (2 ^ 63 - 1) / n * n := Int.mul_comm _ _
      omega
    have d0 : (2 ^ 63 - 1) / n ≤ 0 := by omega
    have e4 := Int.mul_ediv_add_emod (2 ^ 63 - 1) n
    have m1 := Int.emod_lt_of_pos (2 ^ 63 - 1) (show 0 < n by omega)
    have : n * ((2 ^ 63 - 1) / n) ≤ 0 := Int.mul_nonpos_of_nonneg_of_nonpos (by omega) d0
    omega
  · have : (⟨#[c]⟩ : Str).length * n.toNat ≤ 1000 := by
      show 1 * n.toNat ≤ 1000
      omega
    unfold Builtin.Str.tooLong
    exact decide_eq_false (by
      have : (1000 : Nat) ≤ sizeLine := by decide
      omega)
  · by_cases a : n < 1
    · rw [if_pos a]
      refine ⟨by decide, .str _, H, I.tok _, ⟨_, rfl⟩, ?_⟩
      have e : n.toNat = 0 := by omega
      rw [e] at q
      exact q
    · rw [if_neg a]
      by_cases b : (n == 1 || (⟨#[c]⟩ : Str).length == 0) = true
      · rw [if_pos b]
        have e : n = 1 := by
          rcases Bool.or_eq_true_iff.mp b with z | z
          · exact eq_of_beq z
          · cases z
        subst e
        exact ⟨.str _, H, I, ⟨_, rfl⟩, q⟩
      · rw [if_neg b]
        have ef : ((List.replicate n.toNat (⟨#[c]⟩ : Str).cps).foldl (· ++ ·) #[]) = (List.replicate n.toNat c).toArray := by
          show (List.replicate n.toNat #[c]).foldl (· ++ ·) #[] = _
          rw [rep_fold]
          simp
        rw [ef]
        refine ⟨?_, .str _, H, I.tok _, ⟨_, rfl⟩, q⟩
        show (List.replicate n.toNat c).toArray.size ≤ sizeLine
        rw [List.size_toArray, List.length_replicate]
        have : (1000 : Nat) ≤ sizeLine := by decide
        omega
end L2
set_option Elab.async false
set_option linter.all false
set_option maxRecDepth 100000
set_option maxHeartbeats 1000000
/-! tuples of which it is known that they have no dict of their own: dict(t), enumerate(t); str.rpartition -/
namespace PySem
open PySem.W PyProof.Rows
set_option maxHeartbeats 2000000 in
theorem meets_enumerate_newB1 {v : Value} {o : Obj} {H : Heap → Prop} (B : Begins v o H) :
    Meets (Builtin.«enumerate.__new__» ⟨[.type "enumerate", v], []⟩) (fun _ R s => H s.heap ∧
      R (.ok (.ret (.ref (s.heap.push o).objs.size))) { s with heap := (s.heap.push o).push { cls := .type "enumerate", data := .fields #[.none, .bool false, .ref s.heap.objs.size, rawInt 0, .none, .none] } }) :=
  .of_wp fun prog w A R s h => by
    obtain ⟨hp, g, d, tk, os⟩ := s; obtain ⟨h1, h⟩ := h
    have hsub := sub_enumerate
    have q1 : ∀ {A' : Around} {E : Value → Shared → Prop} {Q : Value → Shared → Prop}, Q (.ref hp.objs.size) ⟨hp.push o, g, d, tk, os⟩ → wpAny (model prog w) A' (pyIter v) Q E ⟨hp, g, d, tk, os⟩ :=
      fun q => B.iter prog w _ _ ⟨hp, g, d, tk, os⟩ _ h1 q
    wp_walk using q1
    refine wpAny_stack_any fun st => wpAny_pure ?_
    split
    · rename_i c _ _ _ _ _
      cases (c == Value.type "enumerate")
      · wp_walk using q1
        exact ⟨_, rfl, h⟩
      · wp_walk using q1
        exact ⟨_, rfl, h⟩
    · wp_walk using q1
      exact ⟨_, rfl, h⟩
theorem enum_begins1 {prog : Program} {w : World} {A : Around} {E : Value → Shared → Prop} {s : Shared} {v : Value} {o : Obj} {H : Heap → Prop} {Q : Value → Shared → Prop} (B : Begins v o H) (h1 : H s.heap)
    (h : ∀ h', IsEnum h' (s.heap.objs.size + 1) s.heap.objs.size 0 .none → h'.get? s.heap.objs.size = some o → h'.objs.size = s.heap.objs.size + 2 →
      (∀ b o, s.heap.get? b = some o → h'.get? b = some o) → Q (.ref (s.heap.objs.size + 1)) { s with heap := h' }) :
    wpAny (model prog w) A (call (.type "enumerate") [v]) Q E s := by
  refine callType_new F.called_enumerate (by decide) (F.typeCall_enumerate_1 _) (F.newCall_enumerate_1 _) (fun obj => F.args_object_init_2 obj _) F.entry_enumerate_new
    (meets_enumerate_newB1 B) ⟨h1, ?_⟩
  have hz : (s.heap.push o).objs.size = s.heap.objs.size + 1 := Heap.size_push ..
  show _ ∧ _
  rw [hz]
  have he : IsEnum ((s.heap.push o).push { cls := .type "enumerate", data := .fields #[.none, .bool false, .ref s.heap.objs.size, rawInt 0, .none, .none] }) (s.heap.objs.size + 1) s.heap.objs.size 0 .none := by
    have := Heap.get?_push_size (s.heap.push o) (o := { cls := .type "enumerate", data := .fields #[.none, .bool false, .ref s.heap.objs.size, rawInt 0, .none, .none] }) rfl
    rw [hz] at this; exact this
  refine ⟨⟨_, he, rfl⟩, h _ he (Heap.get?_push_of_some _ (Heap.get?_push_size _ B.free)) (by rw [Heap.size_push, hz]) fun b o x => Heap.get?_push_of_some _ (Heap.get?_push_of_some _ x)⟩
theorem wpAny_pyNext_enum_endT {prog : Program} {w : World} {A : Around} {E : Value → Shared → Prop} {s : Shared} {e it l : Addr} {i : Nat} {items : Array Value} {old : Value} {Q : Option Value → Shared → Prop} (hh : A.handled = none)
    (he : IsEnum s.heap e it i old) (hit : s.heap.IsTupleIter it l i) (hl : s.heap.IsTuple l items) (hx : items[i]? = none)
    (hQ : ∀ h', Heap.ExtBut it s.heap h' → Q none { s with heap := h' }) : wpAny (model prog w) A (pyNext (.ref e)) Q E s := by
  have hT : s.TypeIs (.ref e) "enumerate" := ⟨_, he, rfl⟩
  unfold pyNext
  refine wpAny_bind (wpAny_attempt (wpAny_callSpecial?_slot (name := Str.ofString "__next__") hT F.slot_enumerate_next
    (wpAny_call_entry F.slot_enumerate_next hT F.entry_enumerate_next ?_ (F.args_enumerate_next_1 _))))
  show wpAny _ _ (field (.ref e) 2 >>= _) _ _ _
  refine wpAny_bind (wpAny_field he rfl (x := .ref it) rfl ?_)
  refine wpAny_bind (wpAny_nextOf_tuple_end hh hit hl hx fun h' x he' hx' => ?_)
  obtain ⟨o, ho, hc⟩ := hx'
  refine wpAny_bind (wpAny_isInstance (T := "StopIteration") (b := true) ⟨o, ho, hc⟩ isSubtype_stop ?_)
  exact wpAny_pure (hQ _ he')
end PySem
namespace L2
open PySem PySem.Spec PyProof.Rows
section
variable {X : Cx}
/-- t[::-1] -/
def tRevN (K : PySem.W.Frag) (te : TE) : TE := fun σ H Q => te σ H fun x H1 => ∃ a xs, x = .ref a ∧ SqT K H1 a xs ∧ ∀ p o, H1 p = none → o.dict = none → Q (.ref p) (upd H1 p (.frz o (.tup xs.reverse)))
theorem pe_revN {e : Expr} {te : TE} {k : Nat} {p1 p2 p3 pos : Pos} (he : PE X e te) : PE X (.Subscript e (.Slice none none (some (.UnaryOp .USub (.Constant (.int 1) k p1) p2)) p3) pos) (tRevN X.K te) := by
  refine ⟨fun pins s σ H Q I h => ?_⟩
  refine Subscript_ (thn (he.run pins s σ H _ I h) fun v s1 ⟨x, H1, I1, r1, a, xs, ex, hx, q⟩ => ?_)
  subst ex
  cases r1
  have stp : PO X (some (.UnaryOp .USub (.Constant (.int 1) k p1) p2)) (tPart (tUn (rU fun i => .int (-i)) (tC (.int 1)))) := po_some (pe_un un_neg pe_int)
  refine wpAny_Slice (thn (po_none.run pins s1 σ H1 (fun o H2 => o = none ∧ H2 = H1) I1 ⟨rfl, rfl⟩) fun vl s2 ⟨l, H2, I2, pl, el, e2⟩ => ?_)
  subst el e2
  refine thn (po_none.run pins s2 σ H2 (fun o H3 => o = none ∧ H3 = H2) I2 ⟨rfl, rfl⟩) fun vu s3 ⟨u, H3, I3, pu, eu, e3⟩ => ?_
  subst eu e3
  refine thn (stp.run pins s3 σ H3 (fun o H4 => o = some (-1) ∧ H4 = H3) I3 ⟨1, rfl, -1, rfl, rfl, rfl⟩) fun vs s4 ⟨o, H4, I4, ps, eo, e4⟩ => ?_
  subst eo e4
  have I5 : Inv X pins σ H4 { s4 with heap := s4.heap.push { cls := .type "slice", data := .fields #[vl, vu, vs] } } := I4.kept (t' := s4.toks) fun b ob z => Heap.get?_push_of_some _ z
  obtain ⟨its, r, ht, hz⟩ := I5.tuple hx
  have hlen := r.length
  cases pl
  cases pu
  show wpAny (model X.prog X.w) X.A (subscriptTail e (.Slice none none (some (.UnaryOp .USub (.Constant (.int 1) k p1) p2)) p3) (.ref a) (.ref s4.heap.objs.size)) (EP X pins σ Q) X.xe _
  refine tail_any (ops := [.ref a, .ref s4.heap.objs.size]) ht.typeIs PyProof.Rows.slot_tuple_getitem.lookup ?_ (by with_unfolding_all rfl)
  refine HT.getItem_tuple_back ht (Heap.IsSliceOf.new _ _ _ vs) ps ?_ (by rw [List.size_toArray]; omega)
  exact ⟨.ref _, _, I5.laid (t' := s4.toks) (fun b ob z => Heap.get?_push_of_some _ z) (Nat.le_refl _) (new_frz r.reverse (by rw [List.length_reverse]; exact hz) (Heap.get?_push_size _ rfl) _ _), rfl, q _ _ (I5.hok.fresh (Nat.le_refl _)) rfl⟩

/-! ### dict(t) of a tuple of pairs -/
theorem pairs_ofN {pins : List (Addr × Obj)} {σ : St} {H : Hp} {s : Shared} (I : Inv X pins σ H s) : ∀ {ps : List Addr} {kvs : List (Key × V)}, Paired (fun p kv => SqT X.K H p [kV kv.1, kv.2]) ps kvs →
    ∃ (prs : List (Key × Value)) (vs : List (Value × Value)), KV kvs prs ∧ prs.length = ps.length ∧ vs.length = ps.length ∧ (∀ (j : Nat) (k v : Value), vs[j]? = some (k, v) → ∃ b : Addr, ps[j]? = some b ∧ IsTup s.heap b #[k, v]) ∧
      ∀ (j : Nat) (k v : Value), vs[j]? = some (k, v) → ∃ key : Key, prs[j]? = some (key, v) ∧ (mixKind X.prog X.w).is key k = true
  | _, _, .nil => ⟨[], [], .nil, rfl, rfl, fun j k v e => by simp at e, fun j k v e => by simp at e⟩
  | _, _, .cons (a := p) (b := kv) h t => by
    obtain ⟨its, rv, ht, _⟩ := I.tuple h
    obtain ⟨u, y, ei, ru, ry⟩ := vals2 rv
    subst ei
    obtain ⟨prs, vs, r, hl, hv, h1, h2⟩ := pairs_ofN I t
    refine ⟨(kv.1, y) :: prs, (u, y) :: vs, .cons ⟨rfl, ry⟩ r, by simp [hl], by simp [hv], fun j k v e => ?_, fun j k v e => ?_⟩
    · cases j with
      | zero =>
        have e' : (u, y) = (k, v) := Option.some.inj e
        cases e'
        exact ⟨p, rfl, ht⟩
      | succ j =>
        obtain ⟨b, e1, e2⟩ := h1 j k v (by simpa using e)
        exact ⟨b, by simpa using e1, e2⟩
    · cases j with
      | zero =>
        have e' : (u, y) = (k, v) := Option.some.inj e
        cases e'
        exact ⟨kv.1, rfl, kV_is (P := X.prog) (w := X.w) ru⟩
      | succ j =>
        obtain ⟨key, e1, e2⟩ := h2 j k v (by simpa using e)
        exact ⟨key, by simpa using e1, e2⟩
theorem call_dictT (hcalm : X.calm = true) : CallR X (.type "dict") (fun xs H Q => ∃ (a : Addr) (ps : List Addr) (kvs : List (Key × V)), xs = [.ref a] ∧ SqP X.K H a (ps.map V.ref) ∧ Paired (fun p kv => SqT X.K H p [kV kv.1, kv.2]) ps kvs ∧
    ∀ p, H p = none → Q (.ref p) (upd H p (.dK (mergeK [] kvs)))) := by
  intro pins s σ H xs us Q I r q
  obtain ⟨a, ps, kvs, ex, hq, hp, q⟩ := q
  subst ex
  obtain ⟨u, eu, rx⟩ := vals1 r
  subst eu
  cases rx
  obtain ⟨o, its, n, rv, ho, hc, hd, hdat, hz⟩ := I.plain hq
  have ei := refs_at rv
  subst ei
  rw [List.length_map] at hz
  obtain ⟨prs, vs, rel, hl, hv, h1, h2⟩ := pairs_ofN I hp
  refine PySem.call_dict_pairs (knd := mixKind X.prog X.w) (kvs := prs) (PairArg.tuple a (ps.map Value.ref).toArray (fun j => ps.getD j 0) vs) (I.ok.hd hcalm)
    ⟨⟨o, n, ho, hc, hd, hdat⟩, by simp [hv], fun j k v e => ?_⟩ ⟨by rw [hl, hv], fun i k v e => ?_⟩ (by rw [hv]; exact hz) fun h' tk hd' kp => ?_
  · obtain ⟨b, e1, e2⟩ := h1 j k v e
    have e3 : ps.getD j 0 = b := by rw [List.getD_eq_getElem?_getD, e1]; rfl
    exact ⟨by simp [e1], by show PairAt s.heap (ps.getD j 0) k v; rw [e3]; exact .inl e2⟩
  · exact h2 i k v e
  · have hm : (s.heap.objs.size == sysModules) = false := beq_eq_false_iff_ne.mpr (Nat.ne_of_gt I.big)
    have hlen : (mergeK [] kvs).length ≤ sizeLine := by
      refine Nat.le_trans (length_mergeK kvs []) ?_
      rw [List.length_nil, Nat.zero_add, rel.length, hl]
      exact hz
    exact ⟨.ref s.heap.objs.size, upd H s.heap.objs.size (.dK (mergeK [] kvs)), I.laid (t' := tk) (fun b o e => kp b o (by simp) e) (Nat.le_refl _) (show ObjOk X.prog X.w _ _ _ (.dK (mergeK [] kvs)) from ⟨hlen, hm, merged [] prs, KV.merge rel .nil, hd'⟩), rfl, q _ (I.hok.fresh (Nat.le_refl _))⟩
/-! ### str.rpartition -/
theorem mt_rpartition : MtR X "str.rpartition" (fun x xs H Q => ∃ a b, x = .str a ∧ xs = [.str b] ∧ (b.length == 0) = false ∧ a.length ≤ sizeLine ∧
    ∀ p, H p = none → Q (.ref p) (upd H p (.tup [.str (Txt.rpartition a b).1, .str (Txt.rpartition a b).2.1, .str (Txt.rpartition a b).2.2]))) := by
  intro pins s σ H x xs v us Q I rx rs h
  obtain ⟨a, b, rfl, rfl, hb, hz, h⟩ := h
  obtain ⟨t, rfl⟩ := rx
  cases rs with
  | cons r1 rs =>
    cases rs
    obtain ⟨u, rfl⟩ := r1
    refine call_meets F.slot_str_rpartition (typeIs_str _ _ _) F.entry_str_rpartition (F.args_str_rpartition_2 _ _) (meets_str_rpartition a b t u hb hz) ?_
    unfold Txt.rpartition at h
    revert h
    cases Builtin.Str.lastOccurrence a b 0 a.length with
    | none => intro h; exact laid_parts I h
    | some i => intro h; exact laid_parts I h
theorem pe_rpartition {o e : Expr} {to te : TE} {apos pos : Pos} (ho : PE X o to) (he : PE X e te) (hs : starEach [e] X.env = [(false, eval e X.env)] := by rfl) (hbase : attributeBase o "rpartition" X.env (eval o X.env) = eval o X.env := by rfl) (hline : (apos.endLine == pos.line) = true := by rfl) :
    PE X (.Call (.Attribute o "rpartition" apos) [e] [] pos) (tM1 (fun x xs H Q => ∃ a b, x = .str a ∧ xs = [.str b] ∧ (b.length == 0) = false ∧ a.length ≤ sizeLine ∧
      ∀ p, H p = none → Q (.ref p) (upd H p (.tup [.str (Txt.rpartition a b).1, .str (Txt.rpartition a b).2.1, .str (Txt.rpartition a b).2.2]))) to te) :=
  pe_m1 F.slot_str_rpartition F.type_str_rpartition mt_rpartition ho he hs hbase hline
end
/-! ### for at, .. in enumerate(a tuple) -/
/-- the tuple at a, each item in a new pair -/
def IteT (K : PySem.W.Frag) (a : Addr) : It :=
  ⟨fun i H => ∃ (xs : List V) (x : V), SqT K H a xs ∧ xs[i]? = some x, fun i H v H' => ∃ T x, v = .ref T ∧ H T = none ∧ H' = upd H T (.tup [.int (i : Nat), x]) ∧ ∀ xs, SqT K H a xs → xs[i]? = some x, fun i H => ∃ xs : List V, SqT K H a xs ∧ xs.length ≤ i⟩
theorem turn_enumT {P : Program} {w : World} {K : PySem.W.Frag} {elts : List Expr} {kk : Nat} {tpos : Pos} (a e it : Addr) :
    Turn P w K (.Tuple elts kk tpos) (IteT K a) [e, it] e (fun i h => (∃ old, IsEnum h e it ((i : Nat) : Int) old) ∧ h.IsTupleIter it a i ∧ e ≠ it ∧ a ≠ it ∧ a ≠ e) where
  mem := by simp
  obj := fun i h st b hb => by
    obtain ⟨⟨old, he⟩, ⟨o, ho, hc, hd⟩, _⟩ := st
    have e' : b = e ∨ b = it := by simpa using hb
    rcases e' with z | z
    · rw [z]; exact ⟨_, he, fun v q => nomatch q⟩
    · rw [z]; exact ⟨o, ho, fun v q => by rw [hd] at q; cases q⟩
  keep := fun i h h' st k => let ⟨⟨old, he⟩, hi, hne⟩ := st; ⟨⟨old, k e (by simp) _ he⟩, hi.at fun o q => k it (by simp) o q, hne⟩
  item := by
    intro X hP hw hK hc i pins s σ H E I hf st hg
    subst hP hw hK
    obtain ⟨⟨old, he⟩, hit, hne, ha1, ha2⟩ := st
    obtain ⟨xs, x, hq, hx⟩ := hg
    obtain ⟨its, rv, p, hz⟩ := I.tuple hq
    obtain ⟨u, hu, ru⟩ := rv.get hx
    have hel : e < s.heap.objs.size := Heap.lt_size he
    have hil : it < s.heap.objs.size := by obtain ⟨_, q, _⟩ := hit; exact Heap.lt_size q
    have hil2 : i < its.toArray.size := by
      have := (List.getElem?_eq_some_iff.mp hu).1
      simpa using this
    refine wpAny_pyNext_enum_itemD (fp := [it, a]) (P := fun i v => its.toArray[i]? = some v) (St := fun i h => h.IsTupleIter it a i ∧ h.IsTuple a its.toArray) (Draws.tuple (show X.A.in1.handled = none from I.ok.hd hc) it a ha1 its.toArray) he ⟨hit, show s.heap.IsTuple a its.toArray from p⟩ hil2 hne (by simp [hne, Ne.symm ha2]) fun x' h' tk hx' ho hst' hT hsz hk => ?_
    have ex : x' = u := by
      have : its.toArray[i]? = some u := by simpa using hu
      exact Option.some.inj (hx'.symm.trans this)
    subst ex
    refine ⟨_, rfl, wpAny_letOwnedTupleGo_enum (s := { s with heap := h', toks := tk + 1 }) ho fun h'' he' sb => ?_⟩
    have hT2 : h''.get? s.heap.objs.size = some { cls := .type "tuple", data := .seq #[.int i tk, x'] } := (sb.2 _ (Nat.ne_of_gt hel)).trans hT
    have new : ObjOk X.prog X.w (upd H s.heap.objs.size (.tup [.int (i : Nat), x])) h'' s.heap.objs.size (.tup [.int (i : Nat), x]) :=
      ⟨by show 2 ≤ sizeLine; decide, [.int i tk, x'], .cons ⟨_, rfl⟩ (.cons ru .nil), ⟨_, hT2, rfl, _, rfl⟩⟩
    have I1 : Inv X pins σ (upd H s.heap.objs.size (.tup [.int (i : Nat), x])) { s with heap := h'', toks := tk + 1 } :=
      I.turnedNew (ch := [e, it]) (fun b ob hb q => (sb.2 b (fun z => hb (by simp [z]))).trans (hk b ob (fun z => hb (by simp [z])) (fun z => hb (by simp [z])) q)) hf (Nat.le_refl _) new
    refine ⟨.ref s.heap.objs.size, _, I1, rfl, ⟨_, x, rfl, I.hok.fresh (Nat.le_refl _), rfl, fun ys hy => by rw [I.tuple_inj hy hq]; exact hx⟩, ⟨⟨x', ?_⟩, hst'.1.at fun o q => (sb.2 it (Ne.symm hne)).trans q, hne, ha1, ha2⟩, fun b hb => ?_⟩
    · have e1 : ((i + 1 : Nat) : Int) = (i : Int) + 1 := by omega
      rw [e1]; exact he'
    · have hb' : b < s.heap.objs.size := by
        have e' : b = e ∨ b = it := by simpa using hb
        rcases e' with z | z
        · rw [z]; exact hel
        · rw [z]; exact hil
      rw [upd_ne (Nat.ne_of_lt hb')]
      exact (hf b hb).1
  done := by
    intro X hP hw hK hc i pins s σ H E I hf st hg
    subst hP hw hK
    obtain ⟨⟨old, he⟩, hit, hne, ha1, ha2⟩ := st
    obtain ⟨xs, hq, hx⟩ := hg
    obtain ⟨its, rv, p, hz⟩ := I.tuple hq
    obtain ⟨f0, f1, f2, f3, f4, f5⟩ := hf it (by simp)
    have hl := rv.length
    exact wpAny_pyNext_enum_endT (I.ok.hd hc) he hit (show s.heap.IsTuple a its.toArray from p) (by simp; omega) fun h' eb => ⟨rfl, I.turned (t' := s.toks) (fun b o hb e => eb b o hb e) f0 f1 f3 f4 f5⟩
  self := fun A i s Q E st h => let ⟨⟨_, he⟩, _⟩ := st; wpAny_pyIter_enum he h
def iEnumT (K : PySem.W.Frag) (ta : TA) : TI := fun σ H R => ta σ H fun vs H1 => ∃ a xs, vs = [.ref a] ∧ SqT K H1 a xs ∧ R (IteT K a) H1
theorem pi_enumT {X : Cx} {e : Expr} {ta : TA} {p pos tpos : Pos} {elts : List Expr} {kk : Nat} (hg : Gl X "enumerate") (hm : X.mg "enumerate" = none) (ha : PA X [e] ta) (hs : starEach [e] X.env = [(false, eval e X.env)] := by rfl) :
    PI X (.Tuple elts kk tpos) (.Call (.Name "enumerate" p) [e] [] pos) (iEnumT X.K ta) := by
  refine ⟨fun pins s σ H R I h => ?_⟩
  refine Call_ (ld_blt I hg hm boot_enumerate (PyProof.Rows.callWith_type1 (thn (ha.run pos pins s σ H _ I h) fun us s1 ⟨vs, H1, I1, r1, q1⟩ => ?_) hs rfl))
  obtain ⟨a, xs, ex, hq, q⟩ := q1
  subst ex
  cases r1 with
  | cons r rr =>
    cases rr
    cases r
    obtain ⟨its, rv, p', hz⟩ := I1.tuple hq
    have p2 : s1.heap.IsTuple a its.toArray := p'
    have la : a < s1.heap.objs.size := by obtain ⟨_, g, _⟩ := p2; exact Heap.lt_size g
    refine enum_begins1 (begins_tuple a its.toArray) p2 fun h' he hit hsz hk => wpAny_pyIter_enum he ?_
    have I2 : Inv X pins σ H1 { s1 with heap := h' } := I1.kept (t' := s1.toks) hk
    refine ⟨s1.heap.objs.size + 1, [s1.heap.objs.size + 1, s1.heap.objs.size], _, _, H1, rfl, I2, turn_enumT a (s1.heap.objs.size + 1) s1.heap.objs.size, ⟨⟨.none, he⟩, ⟨_, hit, rfl, rfl⟩, Nat.succ_ne_self _, Nat.ne_of_lt la, Nat.ne_of_lt (Nat.lt_succ_of_lt la)⟩, fun b hb => ?_, q⟩
    have e' : b = s1.heap.objs.size + 1 ∨ b = s1.heap.objs.size := by simpa using hb
    have hle : s1.heap.objs.size ≤ b := by
      rcases e' with z | z
      · rw [z]; exact Nat.le_add_right _ _
      · rw [z]; exact Nat.le_refl _
    exact I1.fpOk hle (I1.hok.fresh hle)
end L2
set_option Elab.async false
set_option linter.all false
set_option maxRecDepth 100000
set_option maxHeartbeats 1000000
namespace Toy
open PySem L2
/-! ### drawn data: its texts and numbers, its weight, its depth -/
mutual
def gdB (j : Nat) : PyData → Bool
  | .str x => PyData.strOk x && decide (x.length ≤ 100 + j)
  | .int i => decide (i.natAbs ≤ 10 ^ 30 + j)
  | .list ds => gdA j ds
  | .tuple ds => gdA j ds
  | .dict kvs => kvs.isEmpty
  | .none => true
  | .bool _ => true
def gdA (j : Nat) : List PyData → Bool
  | [] => true
  | d :: ds => gdB j d && gdA j ds
end
theorem gdA_iff {j : Nat} : ∀ {ds : List PyData}, gdA j ds = true ↔ ∀ d ∈ ds, gdB j d = true
  | [] => ⟨fun _ _ h => (nomatch h), fun _ => rfl⟩
  | d :: ds => by
    show (gdB j d && gdA j ds) = true ↔ _
    rw [Bool.and_eq_true, gdA_iff (ds := ds)]
    constructor
    · rintro ⟨a, b⟩ x h
      rcases List.mem_cons.mp h with rfl | h
      · exact a
      · exact b x h
    · intro h
      exact ⟨h d List.mem_cons_self, fun x m => h x (List.mem_cons_of_mem _ m)⟩
mutual
theorem gdB_up {j k : Nat} (h : j ≤ k) : ∀ d : PyData, gdB j d = true → gdB k d = true
  | .str x, g => by
    have g' : (PyData.strOk x && decide (x.length ≤ 100 + j)) = true := g
    show (PyData.strOk x && decide (x.length ≤ 100 + k)) = true
    rw [Bool.and_eq_true, decide_eq_true_eq] at g' ⊢
    exact ⟨g'.1, by omega⟩
  | .int i, g => by
    have g' : decide (i.natAbs ≤ 10 ^ 30 + j) = true := g
    show decide (i.natAbs ≤ 10 ^ 30 + k) = true
    rw [decide_eq_true_eq] at g' ⊢
    omega
  | .list ds, g => gdA_up h ds g
  | .tuple ds, g => gdA_up h ds g
  | .dict kvs, g => g
  | .none, _ => rfl
  | .bool _, _ => rfl
theorem gdA_up {j k : Nat} (h : j ≤ k) : ∀ ds : List PyData, gdA j ds = true → gdA k ds = true
  | [], _ => rfl
  | d :: ds, g => by
    have g' : (gdB j d && gdA j ds) = true := g
    rw [Bool.and_eq_true] at g'
    show (gdB k d && gdA k ds) = true
    rw [Bool.and_eq_true]
    exact ⟨gdB_up h d g'.1, gdA_up h ds g'.2⟩
end
mutual
theorem gdB_txt {j : Nat} (h : j ≤ 1000) : ∀ d : PyData, gdB j d = true → txtB d = true
  | .str x, g => by
    have g' : (PyData.strOk x && decide (x.length ≤ 100 + j)) = true := g
    show (PyData.strOk x && decide (x.length ≤ 2000)) = true
    rw [Bool.and_eq_true, decide_eq_true_eq] at g' ⊢
    exact ⟨g'.1, by omega⟩
  | .int i, g => rfl
  | .list ds, g => gdA_txt h ds g
  | .tuple ds, g => gdA_txt h ds g
  | .dict kvs, g => rfl
  | .none, _ => rfl
  | .bool _, _ => rfl
theorem gdA_txt {j : Nat} (h : j ≤ 1000) : ∀ ds : List PyData, gdA j ds = true → txtAll ds = true
  | [], _ => rfl
  | d :: ds, g => by
    have g' : (gdB j d && gdA j ds) = true := g
    rw [Bool.and_eq_true] at g'
    show (txtB d && txtAll ds) = true
    rw [Bool.and_eq_true]
    exact ⟨gdB_txt h d g'.1, gdA_txt h ds g'.2⟩
end
theorem int_log {i : Int} {j : Nat} (h : i.natAbs ≤ 10 ^ 30 + j) (hj : j ≤ 1000) : i.natAbs.log2 < 1920 := by
  by_cases h0 : i.natAbs = 0
  · rw [h0]; decide
  · have : i.natAbs < 2 ^ 101 := Nat.lt_of_le_of_lt (Nat.le_trans h (Nat.add_le_add_left hj _)) (by decide)
    have := (Nat.log2_lt h0).mpr this
    omega
mutual
theorem gdB_show {j : Nat} (h : j ≤ 1000) : ∀ d : PyData, gdB j d = true → d.showable = true
  | .str x, g => by simp only [PyData.showable]
  | .int i, g => by
    have g' : decide (i.natAbs ≤ 10 ^ 30 + j) = true := g
    rw [decide_eq_true_eq] at g'
    simp only [PyData.showable]
    exact decide_eq_true (int_log g' h)
  | .list ds, g => by simp only [PyData.showable]; exact gdA_show h ds g
  | .tuple ds, g => by simp only [PyData.showable]; exact gdA_show h ds g
  | .dict [], g => by simp only [PyData.showable, PyData.showableKv]
  | .dict (_ :: _), g => by cases g
  | .none, _ => by simp only [PyData.showable]
  | .bool _, _ => by simp only [PyData.showable]
theorem gdA_show {j : Nat} (h : j ≤ 1000) : ∀ ds : List PyData, gdA j ds = true → PyData.showableAll ds = true
  | [], _ => by simp only [PyData.showableAll]
  | d :: ds, g => by
    have g' : (gdB j d && gdA j ds) = true := g
    rw [Bool.and_eq_true] at g'
    simp only [PyData.showableAll, Bool.and_eq_true]
    exact ⟨gdB_show h d g'.1, gdA_show h ds g'.2⟩
end
theorem int_short {i : Int} {j : Nat} (h : i.natAbs ≤ 10 ^ 30 + j) (hj : j ≤ 1000) : (PyData.shown (.int i)).length ≤ 33 := by
  simp only [PyData.shown]
  have := int_text_length_le10 (a := i) (k := 31) (by decide) (Nat.lt_of_le_of_lt (Nat.le_trans h (Nat.add_le_add_left hj _)) (by decide))
  show (Str.ofString (toString i)).length ≤ 33
  rw [ofString_length]
  omega
mutual
theorem gdB_short {j : Nat} (h : j ≤ 1000) : ∀ d : PyData, gdB j d = true → d.leavesShort 33 = true
  | .str x, g => by
    have g' : (PyData.strOk x && decide (x.length ≤ 100 + j)) = true := g
    rw [Bool.and_eq_true] at g'
    simp only [PyData.leavesShort]
    exact List.all_eq_true.mpr fun c m => decide_eq_true (Nat.lt_trans (ok_code g'.1 m) (by decide))
  | .int i, g => by
    have g' : decide (i.natAbs ≤ 10 ^ 30 + j) = true := g
    rw [decide_eq_true_eq] at g'
    simp only [PyData.leavesShort]
    exact decide_eq_true (int_short g' h)
  | .list ds, g => by simp only [PyData.leavesShort]; exact gdA_short h ds g
  | .tuple ds, g => by simp only [PyData.leavesShort]; exact gdA_short h ds g
  | .dict [], g => by simp only [PyData.leavesShort, PyData.leavesShortKv]
  | .dict (_ :: _), g => by cases g
  | .none, _ => by simp only [PyData.leavesShort]
  | .bool _, _ => by simp only [PyData.leavesShort]
theorem gdA_short {j : Nat} (h : j ≤ 1000) : ∀ ds : List PyData, gdA j ds = true → PyData.leavesShortAll 33 ds = true
  | [], _ => by simp only [PyData.leavesShortAll]
  | d :: ds, g => by
    have g' : (gdB j d && gdA j ds) = true := g
    rw [Bool.and_eq_true] at g'
    simp only [PyData.leavesShortAll, Bool.and_eq_true]
    exact ⟨gdB_short h d g'.1, gdA_short h ds g'.2⟩
end
theorem gd_shown {j : Nat} {d : PyData} (h : j ≤ 1000) (g : gdB j d = true) : d.shown.length ≤ 35 * d.weight + 33 := PyData.shown_le 33 (by decide) d (gdB_short h d g)
/-- drawn data -/
structure Gd (d : PyData) (j w k : Nat) : Prop where
  g : gdB j d = true
  w : d.weight ≤ w
  k : d.depth ≤ k
theorem Gd.up {d : PyData} {j w k j' w' k' : Nat} (h : Gd d j w k) (a : j ≤ j') (b : w ≤ w') (c : k ≤ k') : Gd d j' w' k' := ⟨gdB_up a d h.g, Nat.le_trans h.w b, Nat.le_trans h.k c⟩
/-! weights of rows -/
theorem wA_append (a b : List PyData) : PyData.weightAll (a ++ b) = PyData.weightAll a + PyData.weightAll b := by
  induction a with
  | nil => simp only [List.nil_append, PyData.weightAll]; omega
  | cons x r ih => simp only [List.cons_append, PyData.weightAll, ih]; omega
theorem wA_reverse (a : List PyData) : PyData.weightAll a.reverse = PyData.weightAll a := by
  induction a with
  | nil => rfl
  | cons x r ih =>
    rw [List.reverse_cons, wA_append, ih]
    simp only [PyData.weightAll]
    omega
theorem wA_mem {d : PyData} : ∀ {l : List PyData}, d ∈ l → d.weight + 1 ≤ PyData.weightAll l
  | x :: r, h => by
    simp only [PyData.weightAll]
    rcases List.mem_cons.mp h with rfl | h
    · omega
    · have := wA_mem h; omega
theorem dA_append (a b : List PyData) : PyData.depthAll (a ++ b) = max (PyData.depthAll a) (PyData.depthAll b) := by
  induction a with
  | nil => simp only [List.nil_append, PyData.depthAll]; omega
  | cons x r ih => simp only [List.cons_append, PyData.depthAll, ih]; omega
theorem dA_le {k : Nat} : ∀ {l : List PyData}, (∀ d ∈ l, d.depth ≤ k) → PyData.depthAll l ≤ k
  | [], _ => by simp only [PyData.depthAll]; exact Nat.zero_le _
  | x :: r, h => by
    have a := h x List.mem_cons_self
    have b := dA_le (l := r) fun y hy => h y (List.mem_cons_of_mem _ hy)
    simp only [PyData.depthAll]
    omega
theorem dA_mem {d : PyData} : ∀ {l : List PyData}, d ∈ l → d.depth ≤ PyData.depthAll l
  | x :: r, h => by
    simp only [PyData.depthAll]
    rcases List.mem_cons.mp h with rfl | h
    · omega
    · have := dA_mem h; omega
/-- how many parts a thing of any form has -/
theorem ms_weight : ∀ (n : Nat) (d : PyData), (ms n d).2.1 ≤ d.weight + 1
  | 0, _ => Nat.le_add_left 1 _
  | n + 1, d => by
    show (match kids d with | some (a, b) => two (ms n a) (ms n b) | none => (1, 1, nameOf d)).2.1 ≤ _
    cases hk : kids d with
    | none => exact Nat.le_add_left 1 _
    | some p =>
      obtain ⟨a, b⟩ := p
      have ha := ms_weight n a
      have hb := ms_weight n b
      show (ms n a).2.1 + (ms n b).2.1 + 1 ≤ d.weight + 1
      unfold kids at hk
      split at hk
      · cases hk
        simp only [PyData.weight, PyData.weightAll]
        omega
      · cases hk
/-! ### where drawn data lies: G, a part of the heap that is never written -/
structure Stt (wl : Addr) (G H : Hp) : Prop where
  sub : Same G H
  nw : G wl = none
  well : WellAt H wl
structure Gr (wl : Addr) (G H G' H' : Hp) : Prop where
  gg : Same G G'
  gh : Same G' H'
  gn : ∀ b, G b = none → H b ≠ none → G' b = none
  well : WellAt H' wl
  but : But wl H H'
theorem well_ne {H : Hp} {wl : Addr} (w : WellAt H wl) : H wl ≠ none := by
  obtain ⟨_, _, _, z⟩ := w
  rw [z]
  exact fun z => nomatch z
theorem Gr.stt {wl : Addr} {G H G' H' : Hp} (g : Gr wl G H G' H') (s : Stt wl G H) : Stt wl G' H' := ⟨g.gh, g.gn wl s.nw (well_ne s.well), g.well⟩
theorem Gr.trans {wl : Addr} {G H G1 H1 G2 H2 : Hp} (a : Gr wl G H G1 H1) (b : Gr wl G1 H1 G2 H2) : Gr wl G H G2 H2 :=
  ⟨a.gg.trans b.gg, b.gh, fun c h1 h2 => b.gn c (a.gn c h1 h2) (fun z => h2 (a.but.free a.well z)), b.well, a.but.trans b.but⟩
theorem Gr.stay {wl : Addr} {G H H' : Hp} (s : Stt wl G H) (w : WellAt H' wl) (e : But wl H H') : Gr wl G H G H' :=
  ⟨Same.refl G, fun b o h => e b o (fun z => by rw [z, s.nw] at h; cases h) (s.sub b o h), fun _ h _ => h, w, e⟩
theorem Gr.refl {wl : Addr} {G H : Hp} (s : Stt wl G H) : Gr wl G H G H := .stay s s.well (But.refl H)
theorem Gr.same {wl : Addr} {G H H' : Hp} (s : Stt wl G H) (e : Same H H') : Gr wl G H G H' := .stay s (by
  obtain ⟨a, b, c, h⟩ := s.well
  exact ⟨a, b, c, e _ _ h⟩) (.of e)
/-- a new object of data -/
theorem Gr.new {wl p : Addr} {G H : Hp} (s : Stt wl G H) (hp : H p = none) (o : HO) : Gr wl G H (upd G p o) (upd H p o) := by
  have gp : G p = none := s.sub.free hp
  refine ⟨same_new gp o, fun b u h => ?_, fun b h1 h2 => ?_, ?_, But.new hp o⟩
  · by_cases e : b = p
    · subst e
      rw [upd_same] at h ⊢
      exact h
    · rw [upd_ne e] at h ⊢
      exact s.sub b u h
  · rw [upd_ne (fun e => h2 (by rw [e]; exact hp))]
    exact h1
  · obtain ⟨a, b, c, h⟩ := s.well
    exact ⟨a, b, c, same_new hp o _ _ h⟩
/-- what is new joins G -/
def join (G N : Hp) : Hp := fun b => match G b with | some o => some o | none => N b
theorem join_of {G N : Hp} {b : Addr} (h : G b = none) : join G N b = N b := by unfold join; rw [h]
theorem Gr.join {wl : Addr} {G H H' : Hp} (s : Stt wl G H) (w : WellAt H' wl) (e : But wl H H') : Gr wl G H (join G (newer H H')) H' := by
  have g0 := Gr.stay s w e
  refine ⟨fun b o h => by unfold Toy.join; rw [h], fun b o h => ?_, fun b h1 h2 => ?_, w, e⟩
  · cases q : G b with
    | some u =>
      unfold Toy.join at h
      rw [q] at h
      cases h
      exact g0.gh b o q
    | none =>
      rw [join_of q] at h
      exact newer_all b o h
  · rw [join_of h1]
    unfold newer
    cases q : H b with
    | none => exact absurd q h2
    | some u => rfl
theorem join_new {G H H' : Hp} (s : Same G H) : Same (newer H H') (Toy.join G (newer H H')) := fun b o h => by
  have q : G b = none := by
    cases z : G b with
    | none => rfl
    | some u =>
      unfold newer at h
      rw [s b u z] at h
      cases h
  rw [join_of q]
  exact h
/-- data that stays -/
theorem Gr.dq {K : PySem.W.Frag} {wl : Addr} {G H G' H' : Hp} {v : V} {d : PyData} (g : Gr wl G H G' H') (h : Dq K G v d) : Dq K G' v d := Dq.mono g.gg _ _ h
theorem Gr.lst {wl l : Addr} {G H G' H' : Hp} {o : HO} (g : Gr wl G H G' H') (n : l ≠ wl) (h : H l = some o) : H' l = some o := g.but l o n h
theorem Gr.off {wl l : Addr} {G H G' H' : Hp} (g : Gr wl G H G' H') (h : G l = none) (h2 : H l ≠ none) : G' l = none := g.gn l h h2
/-- a list of one's own changes: the data stays -/
theorem Gr.own {wl l : Addr} {G H : Hp} {o : HO} (s : Stt wl G H) (n : l ≠ wl) (h : G l = none) (o : HO) : Stt wl G (upd H l o) := ⟨fun b u e => by rw [upd_ne (fun z => by rw [z, h] at e; cases e)]; exact s.sub b u e, s.nw, by
  obtain ⟨a, b, c, e⟩ := s.well
  exact ⟨a, b, c, by rw [upd_ne (Ne.symm n)]; exact e⟩⟩
end Toy
set_option Elab.async false
set_option linter.all false
set_option maxRecDepth 100000
set_option maxHeartbeats 2000000
namespace Toy
open PySem L2
/-- pick a sign of a text -/
def spPickS : Sp := fun vs H Q _ => ∃ (wl : Addr) (x : Str), vs = [.ref wl, .str x] ∧ WellAt H wl ∧ 1 ≤ x.length ∧ x.length ≤ 1000 ∧
  ∀ (c : Nat) (H' : Hp), c ∈ x.cps.toList → WellAt H' wl → But wl H H' → Q (.str ⟨#[c]⟩) H'
/-- pick of a list -/
def spPickL (K : PySem.W.Frag) : Sp := fun vs H Q _ => ∃ (wl t : Addr) (xs : List V), vs = [.ref wl, .ref t] ∧ WellAt H wl ∧ SqL K H t xs ∧ t ≠ wl ∧ 1 ≤ xs.length ∧ xs.length < 1073741824 ∧
  ∀ (v : V) (H' : Hp), v ∈ xs → WellAt H' wl → But wl H H' → Q v H'
def txtOk (x : Str) (n : Nat) : Prop := PyData.strOk x = true ∧ x.length ≤ n
/-- a text drawn from the well -/
def spTxt (n : Nat) : Sp := fun vs H Q _ => ∃ (wl : Addr), vs = [.ref wl] ∧ WellAt H wl ∧ ∀ (x : Str) (H' : Hp), txtOk x n → WellAt H' wl → But wl H H' → Q (.str x) H'
structure Nr (mg : Str → Option Value) : Prop where
  range : mg "range" = none
theorem strOk_app {a b : Str} (ha : PyData.strOk a = true) (hb : PyData.strOk b = true) : PyData.strOk (a ++ b) = true := by
  unfold PyData.strOk at ha hb ⊢
  rw [← Array.all_toList] at ha hb ⊢
  rw [app_cps, List.all_append, ha, hb]
  rfl
theorem txt_app {a b : Str} {m n : Nat} (ha : txtOk a m) (hb : txtOk b n) : txtOk (a ++ b) (m + n) := ⟨strOk_app ha.1 hb.1, by rw [strLen_append]; have := ha.2; have := hb.2; omega⟩
theorem txt_up {a : Str} {m n : Nat} (ha : txtOk a m) (h : m ≤ n) : txtOk a n := ⟨ha.1, Nat.le_trans ha.2 h⟩
theorem txt_one {x : Str} {c : Nat} (hx : PyData.strOk x = true) (h : c ∈ x.cps.toList) : txtOk ⟨#[c]⟩ 1 := ⟨one_ok (ok_code hx h), Nat.le_refl 1⟩
section
variable {P : Program} {w : World} {K : PySem.W.Frag} {mg : Str → Option Value} {base : Heap}
theorem ok_pickS {f g : Addr} {fd gd : FuncData} (F : Fun K "_law_pick" "_law_pick" sPick f fd) (T : Nm mg) (D : Gv P w K mg base 1 "_law_draw" g gd ["spring", "top"] spDraw) : FnOk P w K mg base CX0 2 f fd ["spring", "some"] spPickS := by
  refine F.ok scP (fun vs H Q E h => ?_) (fun cdv A outer s H vs Q E hr h => ?_)
  · obtain ⟨wl, x, rfl, _⟩ := h
    rfl
  obtain ⟨wl, x, rfl, hw, h1, h2, q⟩ := h
  refine ⟨_, pss_one (ps_ret (pe_ix ix_str (pv 1) (pe_call D.ok hr rfl D.m D.k D.b .nil pass0 (pa_cons (pv 0) (pa_cons (pe_callB call_len_str rfl T.len PySem.boot_len (pa_cons (pv 1) pa_nil)) pa_nil))) (fun _ _ => rfl))), ?_⟩
  have sz : x.length ≤ sizeLine := Nat.le_trans h2 (by decide)
  refine ⟨_, rfl, _, rfl, _, rfl, _, rfl, sz, wl, _, rfl, by omega, by omega, hw, fun i H' hi0 hi1 hw' hb => ?_⟩
  have eL : x.cps.toList.length = x.length := Array.length_toList
  have lt : i.toNat < x.cps.toList.length := by omega
  have e : i = ((i.toNat : Nat) : Int) := by omega
  have z := atI_nat (xs := x.cps.toList) (j := i.toNat) (v := x.cps.toList[i.toNat]) (List.getElem?_eq_getElem lt)
  rw [← e] at z
  exact ⟨x, i, _, rfl, rfl, sz, z, q _ H' (List.getElem_mem lt) hw' hb⟩
theorem ok_pickL {f g : Addr} {fd gd : FuncData} (F : Fun K "_law_pick" "_law_pick" sPick f fd) (T : Nm mg) (D : Gv P w K mg base 1 "_law_draw" g gd ["spring", "top"] spDraw) : FnOk P w K mg base CX0 2 f fd ["spring", "some"] (spPickL K) := by
  refine F.ok scP (fun vs H Q E h => ?_) (fun cdv A outer s H vs Q E hr h => ?_)
  · obtain ⟨wl, t, xs, rfl, _⟩ := h
    rfl
  obtain ⟨wl, t, xs, rfl, hw, ht, nw, h1, h2, q⟩ := h
  refine ⟨_, pss_one (ps_ret (pe_ix ix_list (pv 1) (pe_call D.ok hr rfl D.m D.k D.b .nil pass0 (pa_cons (pv 0) (pa_cons (pe_callB call_len_seq rfl T.len PySem.boot_len (pa_cons (pv 1) pa_nil)) pa_nil))) (fun _ _ => rfl))), ?_⟩
  refine ⟨_, rfl, _, rfl, _, rfl, t, _, rfl, .inl ht, wl, _, rfl, by omega, by omega, hw, fun i H' hi0 hi1 hw' hb => ?_⟩
  have ht' : SqL K H' t xs := by
    rcases ht with (z | ⟨o, z⟩) | z
    · exact .inl (.inl (hb t _ nw z))
    · exact .inl (.inr ⟨o, hb t _ nw z⟩)
    · exact .inr z
  have lt : i.toNat < xs.length := by omega
  have e : i = ((i.toNat : Nat) : Int) := by omega
  have z := atI_nat (xs := xs) (j := i.toNat) (v := xs[i.toNat]) (List.getElem?_eq_getElem lt)
  rw [← e] at z
  exact ⟨t, xs, i, xs[i.toNat], rfl, rfl, ht', z, q _ H' (List.getElem_mem lt) hw' hb⟩
theorem well_new {H : Hp} {wl p : Addr} (w : WellAt H wl) (hp : H p = none) (o : HO) : WellAt (upd H p o) wl := by
  obtain ⟨a, b, c, h⟩ := w
  exact ⟨a, b, c, same_new hp o _ _ h⟩
theorem well_same {H H' : Hp} {wl : Addr} (w : WellAt H wl) (e : Same H H') : WellAt H' wl := by
  obtain ⟨a, b, c, h⟩ := w
  exact ⟨a, b, c, e _ _ h⟩
def lWr : List Str := ["Row", "Tree", "R", "Rowa", "Ro", "X1", "Y", "Rows"]
theorem lWr_ok : ∀ x ∈ lWr, txtOk x 8 := by
  have h : lWr.all (fun x => PyData.strOk x && decide (x.length ≤ 8)) = true := by decide +kernel
  intro x m
  have := List.all_eq_true.mp h x m
  rw [Bool.and_eq_true, decide_eq_true_eq] at this
  exact this
theorem strs_of {l : List Str} {v : V} (h : v ∈ l.map V.str) : ∃ x, x ∈ l ∧ v = .str x := by
  obtain ⟨x, m, e⟩ := List.mem_map.mp h
  exact ⟨x, m, e.symm⟩
theorem ints_of {l : List Int} {v : V} (h : v ∈ l.map V.int) : ∃ x, x ∈ l ∧ v = .int x := by
  obtain ⟨x, m, e⟩ := List.mem_map.mp h
  exact ⟨x, m, e.symm⟩
end
end Toy
set_option Elab.async false
set_option linter.all false
set_option maxRecDepth 100000
set_option maxHeartbeats 2000000
namespace Toy
open PySem L2
/-! no _law_near_name here -/
abbrev absent_law_near_name : Nat := 0 -- abbrev sNear : Stmt := top 37
theorem cut_list (x : Str) (lo hi : Option Int) : (cutS x lo hi).cps.toList = (x.cps.toList.drop (HT.sIx x.length 0 lo)).take (HT.sIx x.length x.length hi - HT.sIx x.length 0 lo) := by
  unfold cutS
  rfl
theorem len_list (x : Str) : x.length = x.cps.toList.length := Array.length_toList.symm
theorem cut_ok {x : Str} (h : PyData.strOk x = true) (lo hi : Option Int) : PyData.strOk (cutS x lo hi) = true := by
  unfold PyData.strOk
  rw [← Array.all_toList]
  refine List.all_eq_true.mpr fun c m => decide_eq_true (ok_code h ?_)
  rw [cut_list] at m
  exact List.mem_of_mem_drop (List.mem_of_mem_take m)
theorem cut_to (x : Str) (i : Nat) : (cutS x none (some (i : Int))).length ≤ i ∧ (cutS x none (some (i : Int))).length ≤ x.length := by
  rw [len_list, cut_list, HT.sIx_none, HT.sIx_nat, List.length_take, List.length_drop, ← len_list]
  omega
theorem cut_from (x : Str) (i : Nat) : (cutS x (some (i : Int)) none).length ≤ x.length - i := by
  rw [len_list, cut_list, HT.sIx_none, HT.sIx_nat, List.length_take, List.length_drop, ← len_list]
  omega
theorem ticks_ok {n : Nat} {m : Nat} (h : n ≤ m) : txtOk ⟨(List.replicate n 39).toArray⟩ m := by
  refine ⟨?_, ?_⟩
  · unfold PyData.strOk
    rw [← Array.all_toList]
    refine List.all_eq_true.mpr fun c hc => decide_eq_true ?_
    have : c ∈ List.replicate n 39 := by simpa using hc
    rw [List.eq_of_mem_replicate this]
    decide
  · show (List.replicate n 39).toArray.size ≤ m
    rw [List.size_toArray, List.length_replicate]
    exact h
def spNear : Sp := fun vs H Q _ => ∃ (wl : Addr) (x : Str) (m : Nat), vs = [.ref wl, .str x] ∧ WellAt H wl ∧ txtOk x m ∧ 52 ≤ m ∧ m ≤ 80 ∧ ∀ (y : Str) (H' : Hp), txtOk y (m + 9) → WellAt H' wl → But wl H H' → Q (.str y) H'
structure Nmx (mg : Str → Option Value) : Prop where
  max : mg "max" = none
theorem quo_one : (V.str "'") = .str ⟨#[39]⟩ := by
  have : ("'" : Str) = ⟨#[39]⟩ := by decide +kernel
  rw [← this]
section
variable {P : Program} {w : World} {K : PySem.W.Frag} {mg : Str → Option Value} {base : Heap}
end
end Toy
set_option Elab.async false
set_option linter.all false
set_option maxRecDepth 100000
set_option maxHeartbeats 1000000
namespace Toy
open PySem L2
/-! ### kinds by holes, over the data alone -/
inductive Ho where
  | th
  | nm (y : Str)
def hoD : Ho → PyData
  | .th => .tuple [.str "thing"]
  | .nm y => .tuple [.str "name", .str y]
def hoT : Ho → Str
  | .th => ""
  | .nm y => y
def calD (x : Str) (h : Ho) : Str := x ++ quo ++ hoT h
def holD : Ho → PyData
  | .th => .tuple [.str "unit"]
  | .nm y => .tuple [.str "either", .tuple [.str "unit"], .tuple [.str "name", .str (calD y (.nm y))]]
def wE (w : Str) : Bool := decide (V.str w = V.str "either")
def nmX : PyData → Str
  | .str x => x
  | _ => ""
/-- the kind by the hole -/
def kmd : Nat → PyData → Ho → PyData
  | 0, _, _ => .tuple [.str "none"]
  | n + 1, d, h => if PyData.eqv d (hoD h) = true then holD h else
    match d with
    | .tuple [_, x] => .tuple [.str "name", .str (calD (nmX x) h)]
    | .tuple [w, a, b] => if wE (nmX w) = true then .tuple [.str "either", kmd n a h, kmd n b h] else .tuple [.str "either", .tuple [.str "pair", kmd n a h, b], .tuple [.str "pair", a, kmd n b h]]
    | _ => .tuple [.str "none"]
/-! ### texts and tuples alone -/
mutual
def stB : PyData → Bool
  | .str x => PyData.strOk x
  | .tuple ds => stA ds
  | _ => false
def stA : List PyData → Bool
  | [] => true
  | d :: ds => stB d && stA ds
end
mutual
theorem stB_lay : ∀ d : PyData, stB d = true → d.canLay0 = true
  | .str x, h => h
  | .tuple ds, h => stA_lay ds h
  | .none, h => nomatch h
  | .bool _, h => nomatch h
  | .int _, h => nomatch h
  | .list _, h => nomatch h
  | .dict _, h => nomatch h
theorem stA_lay : ∀ ds : List PyData, stA ds = true → PyData.canLayAll0 ds = true
  | [], _ => rfl
  | d :: ds, h => by
    have h' : (stB d && stA ds) = true := h
    rw [Bool.and_eq_true] at h'
    show (d.canLay0 && PyData.canLayAll0 ds) = true
    rw [stB_lay d h'.1, stA_lay ds h'.2]
    rfl
end
mutual
theorem Dq.dp {K : PySem.W.Frag} {H : Hp} : ∀ (d : PyData) (v : V), stB d = true → Dq K H v d → Dp K H v d
  | .str x, _, _, .str _ => .str x
  | .tuple ds, _, h, .tup hs ha => .tup hs.seqT (DqAll.dp ds _ h ha)
  | .none, _, h, _ => nomatch h
  | .bool _, _, h, _ => nomatch h
  | .int _, _, h, _ => nomatch h
  | .list _, _, h, _ => nomatch h
  | .dict _, _, h, _ => nomatch h
theorem DqAll.dp {K : PySem.W.Frag} {H : Hp} : ∀ (ds : List PyData) (vs : List V), stA ds = true → DqAll K H vs ds → DpAll K H vs ds
  | [], _, _, .nil => .nil
  | d :: ds, _, h, .cons r t => by
    have h' : (stB d && stA ds) = true := h
    rw [Bool.and_eq_true] at h'
    exact .cons (Dq.dp d _ h'.1 r) (DqAll.dp ds _ h'.2 t)
end
mutual
theorem eqv_st : ∀ a b : PyData, stB a = true → stB b = true → (PyData.eqv a b = true ↔ a = b)
  | .str x, .str y, _, _ => by
    show (x == y) = true ↔ _
    rw [beq_iff_eq]
    exact ⟨fun h => by rw [h], fun h => by injection h⟩
  | .tuple xs, .tuple ys, h, h2 => by
    show PyData.eqvAll xs ys = true ↔ _
    rw [eqvA_st xs ys h h2]
    exact ⟨fun h => by rw [h], fun h => by injection h⟩
  | .str x, .tuple ys, _, _ => ⟨fun h => (nomatch h), fun h => (nomatch h)⟩
  | .tuple xs, .str y, _, _ => ⟨fun h => (nomatch h), fun h => (nomatch h)⟩
  | .none, _, h, _ => nomatch h
  | .bool _, _, h, _ => nomatch h
  | .int _, _, h, _ => nomatch h
  | .list _, _, h, _ => nomatch h
  | .dict _, _, h, _ => nomatch h
  | .str _, .none, _, h => nomatch h
  | .str _, .bool _, _, h => nomatch h
  | .str _, .int _, _, h => nomatch h
  | .str _, .list _, _, h => nomatch h
  | .str _, .dict _, _, h => nomatch h
  | .tuple _, .none, _, h => nomatch h
  | .tuple _, .bool _, _, h => nomatch h
  | .tuple _, .int _, _, h => nomatch h
  | .tuple _, .list _, _, h => nomatch h
  | .tuple _, .dict _, _, h => nomatch h
theorem eqvA_st : ∀ a b : List PyData, stA a = true → stA b = true → (PyData.eqvAll a b = true ↔ a = b)
  | [], [], _, _ => ⟨fun _ => rfl, fun _ => rfl⟩
  | [], _ :: _, _, _ => ⟨fun h => (nomatch h), fun h => (nomatch h)⟩
  | _ :: _, [], _, _ => ⟨fun h => (nomatch h), fun h => (nomatch h)⟩
  | x :: xs, y :: ys, h, h2 => by
    have h' : (stB x && stA xs) = true := h
    have h2' : (stB y && stA ys) = true := h2
    rw [Bool.and_eq_true] at h' h2'
    show (PyData.eqv x y && PyData.eqvAll xs ys) = true ↔ _
    rw [Bool.and_eq_true, eqv_st x y h'.1 h2'.1, eqvA_st xs ys h'.2 h2'.2]
    exact ⟨fun ⟨a, b⟩ => by rw [a, b], fun h => by injection h with a b; exact ⟨a, b⟩⟩
end
/-- what is formed as a kind -/
theorem fB_cases {n : Nat} {d : PyData} (h : fB n d = true) : (∃ w, d = .tuple [.str w] ∧ w3 w = true) ∨ (∃ w x, d = .tuple [.str w, .str x] ∧ w1 w = true ∧ nmB (.str x) = true) ∨
    ∃ (m : Nat) (w : Str) (a b : PyData), n = m + 1 ∧ d = .tuple [.str w, a, b] ∧ w2 w = true ∧ fB m a = true ∧ fB m b = true := by
  cases n with
  | zero => cases h
  | succ n =>
    cases d with
    | tuple ds =>
      rcases ds with _ | ⟨d0, r⟩
      · cases h
      · cases d0 with
        | str w =>
          rcases r with _ | ⟨x, _ | ⟨y, _ | ⟨z, r⟩⟩⟩
          · rw [fB_one] at h
            exact .inl ⟨w, rfl, h⟩
          · rw [fB_nam, Bool.and_eq_true] at h
            cases x with
            | str x => exact .inr (.inl ⟨w, x, rfl, h.1, h.2⟩)
            | _ => cases h.2
          · rw [fB_two, Bool.and_eq_true, Bool.and_eq_true] at h
            exact .inr (.inr ⟨n, w, x, y, rfl, rfl, h.1, h.2.1, h.2.2⟩)
          · have e : inner (.tuple (.str w :: x :: y :: z :: r)) = none := rfl
            rw [fB_no e] at h
            cases h
        | _ =>
          rw [fB_no rfl] at h
          cases h
    | _ =>
      rw [fB_no rfl] at h
      cases h
theorem fB_st : ∀ (n : Nat) (d : PyData), fB n d = true → txtB d = true → stB d = true
  | 0, _, h, _ => nomatch h
  | n + 1, d, h, t => by
    rcases fB_cases h with ⟨w, rfl, _⟩ | ⟨w, x, rfl, _, _⟩ | ⟨m, w, a, b, e, rfl, _, ha, hb⟩
    · have tt : (txtB (.str w) && true) = true := t
      simp only [Bool.and_eq_true, Bool.and_true] at tt
      have tw : (PyData.strOk w && decide (w.length ≤ 2000)) = true := tt
      rw [Bool.and_eq_true] at tw
      show (PyData.strOk w && true) = true
      rw [tw.1]
      rfl
    · have tt : (txtB (.str w) && (txtB (.str x) && true)) = true := t
      simp only [Bool.and_eq_true] at tt
      have tw : (PyData.strOk w && decide (w.length ≤ 2000)) = true := tt.1
      have tx : (PyData.strOk x && decide (x.length ≤ 2000)) = true := tt.2.1
      rw [Bool.and_eq_true] at tw tx
      show (PyData.strOk w && (PyData.strOk x && true)) = true
      rw [tw.1, tx.1]
      rfl
    · have e' : n = m := by omega
      subst e'
      have tt : (txtB (.str w) && (txtB a && (txtB b && true))) = true := t
      simp only [Bool.and_eq_true] at tt
      have tw : (PyData.strOk w && decide (w.length ≤ 2000)) = true := tt.1
      rw [Bool.and_eq_true] at tw
      show (PyData.strOk w && (stB a && (stB b && true))) = true
      rw [tw.1, fB_st n a ha tt.2.1, fB_st n b hb tt.2.2.1]
      rfl
def hoOk (h : Ho) : Prop := txtOk (hoT h) 60
theorem hoD_st {h : Ho} (k : hoOk h) : stB (hoD h) = true := by
  cases h with
  | th => decide +kernel
  | nm y =>
    show (PyData.strOk "name" && (PyData.strOk y && true)) = true
    rw [show PyData.strOk y = true from k.1]
    decide +kernel
theorem quo_ok : txtOk quo 1 := ⟨by decide +kernel, by decide +kernel⟩
theorem calD_ok {x : Str} {n : Nat} {h : Ho} (hx : txtOk x n) (k : hoOk h) : txtOk (calD x h) (n + 61) := txt_up (txt_app (txt_app hx quo_ok) k) (by omega)
theorem holD_st {h : Ho} (k : hoOk h) : stB (holD h) = true := by
  cases h with
  | th => decide +kernel
  | nm y =>
    show (PyData.strOk "either" && ((PyData.strOk "unit" && true) && ((PyData.strOk "name" && (PyData.strOk (calD y (.nm y)) && true)) && true))) = true
    rw [(calD_ok (show txtOk y 60 from k) k).1]
    decide +kernel
theorem st_none : stB (.tuple [.str "none"]) = true := by decide +kernel
theorem kmd_row (n : Nat) (w : Str) (a b : PyData) (h : Ho) (e : ¬ PyData.eqv (.tuple [.str w, a, b]) (hoD h) = true) : kmd (n + 1) (.tuple [.str w, a, b]) h = if wE w = true then .tuple [.str "either", kmd n a h, kmd n b h] else .tuple [.str "either", .tuple [.str "pair", kmd n a h, b], .tuple [.str "pair", a, kmd n b h]] := if_neg e
theorem kmd_nam (n : Nat) (w x : Str) (h : Ho) (e : ¬ PyData.eqv (.tuple [.str w, .str x]) (hoD h) = true) : kmd (n + 1) (.tuple [.str w, .str x]) h = .tuple [.str "name", .str (calD x h)] := if_neg e
theorem kmd_one (n : Nat) (w : Str) (h : Ho) (e : ¬ PyData.eqv (.tuple [.str w]) (hoD h) = true) : kmd (n + 1) (.tuple [.str w]) h = .tuple [.str "none"] := if_neg e
theorem kmd_hol (n : Nat) (d : PyData) (h : Ho) (e : PyData.eqv d (hoD h) = true) : kmd (n + 1) d h = holD h := if_pos e
theorem kmd_st : ∀ (n : Nat) (d : PyData) (h : Ho), fB n d = true → txtB d = true → hoOk h → stB (kmd n d h) = true
  | 0, _, _, _, _, _ => st_none
  | n + 1, d, h, f, t, k => by
    by_cases e : PyData.eqv d (hoD h) = true
    · rw [kmd_hol _ _ _ e]
      exact holD_st k
    · have s := fB_st _ _ f t
      rcases fB_cases f with ⟨w, rfl, _⟩ | ⟨w, x, rfl, _, _⟩ | ⟨m, w, a, b, en, rfl, _, ha, hb⟩
      · rw [kmd_one _ _ _ e]; exact st_none
      · rw [kmd_nam _ _ _ _ e]
        have tt : (txtB (.str w) && (txtB (.str x) && true)) = true := t
        simp only [Bool.and_eq_true] at tt
        have tx : (PyData.strOk x && decide (x.length ≤ 2000)) = true := tt.2.1
        rw [Bool.and_eq_true, decide_eq_true_eq] at tx
        show (PyData.strOk "name" && (PyData.strOk (calD x h) && true)) = true
        rw [(calD_ok (n := 2000) tx k).1]
        decide +kernel
      · have en' : n = m := by omega
        subst en'
        have tt : (txtB (.str w) && (txtB a && (txtB b && true))) = true := t
        simp only [Bool.and_eq_true] at tt
        have ka := kmd_st n a h ha tt.2.1 k
        have kb := kmd_st n b h hb tt.2.2.1 k
        have sa := fB_st n a ha tt.2.1
        have sb := fB_st n b hb tt.2.2.1
        rw [kmd_row _ _ _ _ _ e]
        by_cases q : wE w = true
        · rw [if_pos q]
          show (PyData.strOk "either" && (stB (kmd n a h) && (stB (kmd n b h) && true))) = true
          rw [ka, kb]
          decide +kernel
        · rw [if_neg q]
          show (PyData.strOk "either" && ((PyData.strOk "pair" && (stB (kmd n a h) && (stB b && true))) && ((PyData.strOk "pair" && (stB a && (stB (kmd n b h) && true))) && true))) = true
          rw [ka, kb, sa, sb]
          decide +kernel
theorem depth_row (w : Str) (a b : PyData) : (PyData.tuple [.str w, a, b]).depth = max a.depth b.depth + 1 := by
  simp only [PyData.depth, PyData.depthAll]
  omega
theorem kmd_depth : ∀ (n : Nat) (d : PyData) (h : Ho), fB n d = true → (kmd n d h).depth ≤ 2 * d.depth
  | 0, _, _, f => nomatch f
  | n + 1, d, h, f => by
    have one : 1 ≤ d.depth := by
      rcases fB_cases f with ⟨w, rfl, _⟩ | ⟨w, x, rfl, _, _⟩ | ⟨m, w, a, b, en, rfl, _, ha, hb⟩
      · simp only [PyData.depth, PyData.depthAll]; omega
      · simp only [PyData.depth, PyData.depthAll]; omega
      · rw [depth_row]; omega
    by_cases e : PyData.eqv d (hoD h) = true
    · rw [kmd_hol _ _ _ e]
      have : (holD h).depth ≤ 2 := by
        cases h with
        | th => decide
        | nm y => simp only [holD, PyData.depth, PyData.depthAll]; omega
      omega
    · rcases fB_cases f with ⟨w, rfl, _⟩ | ⟨w, x, rfl, _, _⟩ | ⟨m, w, a, b, en, rfl, _, ha, hb⟩
      · rw [kmd_one _ _ _ e]; simp only [PyData.depth, PyData.depthAll]; omega
      · rw [kmd_nam _ _ _ _ e]; simp only [PyData.depth, PyData.depthAll]; omega
      · have en' : n = m := by omega
        subst en'
        have ia := kmd_depth n a h ha
        have ib := kmd_depth n b h hb
        rw [kmd_row _ _ _ _ _ e]
        rw [depth_row]
        by_cases q : wE w = true
        · rw [if_pos q, depth_row]
          omega
        · rw [if_neg q, depth_row, depth_row, depth_row]
          omega
end Toy
set_option Elab.async false
set_option linter.all false
set_option maxRecDepth 100000
set_option maxHeartbeats 2000000
namespace Toy
open PySem L2
def spCal (K : PySem.W.Frag) : Sp := fun vs H Q _ => ∃ (x : Str) (u : V) (ho : Ho), vs = [.str x, u] ∧ Dq K H u (hoD ho) ∧ txtOk x 2000 ∧ txtOk (hoT ho) 2000 ∧ Q (.str (calD x ho)) H
section
variable {P : Program} {w : World} {K : PySem.W.Frag} {mg : Str → Option Value} {base : Heap}

abbrev sNmMd : Stmt := top 23
theorem scNmMd : FnScope ["name", "hole"] ["name", "hole"] (defScope sNmMd) := ⟨rfl, rfl, rfl, by decide +kernel, rfl, by decide +kernel, by decide +kernel⟩
theorem ok_NmMd {f : Addr} {fd : FuncData} (F : Fun K "name_made" "name_made" sNmMd f fd) : FnOk P w K mg base CX0 1 f fd ["name", "hole"] (spCal K) := by
  refine F.ok scNmMd (fun vs H Q E h => ?_) (fun cdv A outer s H vs Q E hr h => ?_)
  · obtain ⟨x, u, ho, rfl, _⟩ := h
    rfl
  obtain ⟨x, u, ho, rfl, hu, tx, tl, q⟩ := h
  refine ⟨_, pss_one (ps_ret (pe_op op_add_str (pe_op op_add_str (pv 0) pe_str) (pe_ifExp (pt_cmpR op_eq (pe_ix ix_tup (pv 1) pe_int (fun _ _ => rfl)) pe_str (nomark _)) (pe_ix ix_tup (pv 1) pe_int (fun _ _ => rfl)) pe_str))), ?_⟩
  have z3 : ∀ {k : Nat}, k ≤ 4500 → k ≤ sizeLine := fun h => Nat.le_trans h (by decide)
  have l1 := tx.2
  have l2 := tl.2
  have lq := quo_ok.2
  have l3 := (txt_app tx quo_ok).2
  refine ⟨_, rfl, x, quo, rfl, rfl, z3 (by omega), ?_⟩
  cases ho with
  | th =>
    obtain ⟨ad, xs, rfl, hx, hA⟩ := dq_tuple hu
    obtain ⟨x0, rs, rfl, g0, hA⟩ := dqAll_cons hA
    cases g0
    refine ⟨_, rfl, ad, _, 0, _, rfl, rfl, hx, atI_nat (j := 0) rfl, rfl, _, rfl, ?_⟩
    refine iteF ⟨x ++ quo, _, rfl, rfl, z3 (by have : (("" : Str)).length = 0 := by decide +kernel
                                               omega), ?_⟩
    exact q
  | nm y =>
    obtain ⟨ad, xs, rfl, hx, hA⟩ := dq_tuple hu
    obtain ⟨x0, rs, rfl, g0, hA⟩ := dqAll_cons hA
    obtain ⟨x1, rs, rfl, g1, hA⟩ := dqAll_cons hA
    cases g0
    cases g1
    refine ⟨_, rfl, ad, _, 0, _, rfl, rfl, hx, atI_nat (j := 0) rfl, rfl, _, rfl, ?_⟩
    refine iteT ⟨_, rfl, ad, _, 1, _, rfl, rfl, hx, atI_nat (j := 1) rfl, ?_⟩
    exact ⟨x ++ quo, y, rfl, rfl, z3 (by have l2' : y.length ≤ 2000 := l2
                                         omega), q⟩

end
end Toy
set_option Elab.async false
set_option linter.all false
set_option maxRecDepth 100000
set_option maxHeartbeats 2000000
namespace Toy
open PySem L2
abbrev sHolM : Stmt := top 27
abbrev sKinM : Stmt := top 25
abbrev sPaiM : Stmt := top 28
structure Nc (K : PySem.W.Frag) (mg : Str → Option Value) : Prop where
  thing : ∃ a, mg "THING" = some (.ref a) ∧ ∀ H, Dq K H (.ref a) (.tuple [.str "thing"])
  none : ∃ a, mg "NONE" = some (.ref a) ∧ ∀ H, Dq K H (.ref a) (.tuple [.str "none"])
  unit : ∃ a, mg "UNIT" = some (.ref a) ∧ ∀ H, Dq K H (.ref a) (.tuple [.str "unit"])
def spHo (K : PySem.W.Frag) : Sp := fun vs H Q _ => ∃ (u : V) (h : Ho), vs = [u] ∧ Dq K H u (hoD h) ∧ hoOk h ∧ ∀ v H', Same H H' → Dq K H' v (holD h) → Q v H'
def spKm (K : PySem.W.Frag) (n : Nat) : Sp := fun vs H Q _ => ∃ (v u : V) (d : PyData) (h : Ho), vs = [v, u] ∧ Dq K H v d ∧ fB n d = true ∧ txtB d = true ∧ d.depth ≤ 60 ∧ Dq K H u (hoD h) ∧ hoOk h ∧
  ∀ v' H', Same H H' → Dq K H' v' (kmd n d h) → Q v' H'
def spPm (K : PySem.W.Frag) (n : Nat) : Sp := fun vs H Q _ => ∃ (v v2 u : V) (a b : PyData) (h : Ho), vs = [v, v2, u] ∧ Dq K H v a ∧ Dq K H v2 b ∧ (fB n a = true ∧ txtB a = true ∧ a.depth ≤ 60) ∧ (fB n b = true ∧ txtB b = true ∧ b.depth ≤ 60) ∧ Dq K H u (hoD h) ∧ hoOk h ∧
  ∀ v' H', Same H H' → Dq K H' v' (.tuple [.str "either", .tuple [.str "pair", kmd n a h, b], .tuple [.str "pair", a, kmd n b h]]) → Q v' H'
theorem shp {d : PyData} (h : stB d = true) (k : d.depth ≤ 64) : SeqAt.shaped d = true := by
  show (d.canLay0 && decide (d.depth ≤ 64)) = true
  rw [stB_lay d h, decide_eq_true k]
  rfl
theorem hoD_depth (h : Ho) : (hoD h).depth ≤ 64 := by
  cases h with
  | th => decide
  | nm y => simp only [hoD, PyData.depth, PyData.depthAll]; omega
theorem ho_up {h : Ho} (k : hoOk h) : txtOk (hoT h) 2000 := txt_up k (by omega)
theorem dq_row1 {K : PySem.W.Frag} {H : Hp} {t : Addr} {w : Str} {v : V} {d : PyData} {ob : Obj} (h : H t = some (.frz ob (.tup [.str w, v]))) (hob : ob.dict = none) (D : Dq K H v d) : Dq K H (.ref t) (.tuple [.str w, d]) := .tup (SqP.of h hob) (.cons (.str _) (.cons D .nil))
theorem dq_row2 {K : PySem.W.Frag} {H : Hp} {t : Addr} {w : Str} {v v2 : V} {d d2 : PyData} {ob : Obj} (h : H t = some (.frz ob (.tup [.str w, v, v2]))) (hob : ob.dict = none) (D : Dq K H v d) (D2 : Dq K H v2 d2) : Dq K H (.ref t) (.tuple [.str w, d, d2]) :=
  .tup (SqP.of h hob) (.cons (.str _) (.cons D (.cons D2 .nil)))
section
variable {P : Program} {w : World} {K : PySem.W.Frag} {mg : Str → Option Value} {base : Heap}
theorem scHolM : FnScope ["hole"] ["hole"] (defScope sHolM) := ⟨rfl, rfl, rfl, by decide +kernel, rfl, by decide +kernel, by decide +kernel⟩
theorem scKinM : FnScope ["kind", "hole", "word"] ["kind", "hole"] (defScope sKinM) := ⟨rfl, rfl, rfl, by decide +kernel, rfl, by decide +kernel, by decide +kernel⟩
theorem scPaiM : FnScope ["first", "second", "hole"] ["first", "second", "hole"] (defScope sPaiM) := ⟨rfl, rfl, rfl, by decide +kernel, rfl, by decide +kernel, by decide +kernel⟩
theorem ok_holM {f fC : Addr} {fd dC : FuncData} (F : Fun K "hole_made" "hole_made" sHolM f fd) (N : Nc K mg) (C : Gv P w K mg base 1 "name_made" fC dC ["name", "hole"] (spCal K)) : FnOk P w K mg base CX0 2 f fd ["hole"] (spHo K) := by
  refine F.ok scHolM (fun vs H Q E h => ?_) (fun cdv A outer s H vs Q E hr h => ?_)
  · obtain ⟨u, h, rfl, _⟩ := h
    rfl
  obtain ⟨u, ho, rfl, hu, tl, q⟩ := h
  obtain ⟨aT, mT, dT⟩ := N.thing
  obtain ⟨aU, mU, dU⟩ := N.unit
  refine ⟨_, pss_cons (ps_if (pt_cmpR (op_eqD hr.units) (pv 0) (pe_glob (v := .ref aT) rfl mT rfl) (nomark _)) (pss_one (ps_ret (pe_glob (v := .ref aU) rfl mU rfl))) pss_nil)
    (pss_one (ps_ret (pe_tupN (pa_cons pe_str (pa_cons (pe_glob (v := .ref aU) rfl mU rfl) (pa_cons (pe_tupN (pa_cons pe_str (pa_cons (pe_call C.ok hr rfl C.m C.k C.b .nil pass0 (pa_cons (pe_ix ix_tup (pv 0) pe_int (fun _ _ => rfl)) (pa_cons (pv 0) pa_nil))) pa_nil))) pa_nil)))))), ?_⟩
  have z3 : ∀ {k : Nat}, k ≤ 20 → k ≤ sizeLine := fun h => Nat.le_trans h (by decide)
  refine ⟨_, rfl, hoD ho, _, Dq.dp _ _ (hoD_st tl) hu, Dq.dp _ _ (by decide +kernel) (dT H), shp (hoD_st tl) (hoD_depth ho), by decide +kernel, _, rfl, ?_⟩
  cases ho with
  | th => exact iteT (q _ H (Same.refl H) (dU H))
  | nm y =>
    refine iteF ⟨_, rfl, ?_⟩
    obtain ⟨ad, xs, rfl, hx, hA⟩ := dq_tuple hu
    obtain ⟨x0, rs, rfl, g0, hA⟩ := dqAll_cons hA
    obtain ⟨x1, rs, rfl, g1, hA⟩ := dqAll_cons hA
    cases g0
    cases g1
    refine ⟨ad, _, 1, _, rfl, rfl, hx, atI_nat (j := 1) rfl, _, rfl, y, .ref ad, .nm y, rfl, hu, ho_up tl, ho_up tl, ?_⟩
    refine ⟨z3 (by show 2 ≤ 20; decide), fun t1 o1 h1 e1 => ⟨z3 (by show 3 ≤ 20; decide), fun t2 o2 h2 e2 => ?_⟩⟩
    have s1 := same_new h1 (.frz o1 (.tup [.str "name", .str (calD y (.nm y))]))
    have s2 := same_new h2 (.frz o2 (.tup [.str "either", .ref aU, .ref t1]))
    exact q _ _ (s1.trans s2) (dq_row2 upd_same e2 (dU _) (Dq.mono s2 _ _ (dq_row1 upd_same e1 (.str _))))
theorem ok_paiM {f fK : Addr} {fd dK : FuncData} {n k : Nat} (F : Fun K "pair_made" "pair_made" sPaiM f fd) (R : Gv P w K mg base k "kind_made" fK dK ["kind", "hole"] (spKm K n)) : FnOk P w K mg base CX0 (k + 1) f fd ["first", "second", "hole"] (spPm K n) := by
  refine F.ok scPaiM (fun vs H Q E h => ?_) (fun cdv A outer s H vs Q E hr h => ?_)
  · obtain ⟨v, v2, u, a, b, ho, rfl, _⟩ := h
    rfl
  obtain ⟨v, v2, u, a, b, ho, rfl, hv, hv2, ⟨fa, ta, da⟩, ⟨fb, tb, db⟩, hu, tl, q⟩ := h
  refine ⟨_, pss_one (ps_ret (pe_tupN (pa_cons pe_str (pa_cons (pe_tupN (pa_cons pe_str (pa_cons (pe_call R.ok hr rfl R.m R.k R.b .nil pass0 (pa_cons (pv 0) (pa_cons (pv 2) pa_nil))) (pa_cons (pv 1) pa_nil))))
    (pa_cons (pe_tupN (pa_cons pe_str (pa_cons (pv 0) (pa_cons (pe_call R.ok hr rfl R.m R.k R.b .nil pass0 (pa_cons (pv 1) (pa_cons (pv 2) pa_nil))) pa_nil)))) pa_nil))))), ?_⟩
  have z3 : ∀ {k : Nat}, k ≤ 20 → k ≤ sizeLine := fun h => Nat.le_trans h (by decide)
  refine ⟨_, rfl, _, rfl, v, u, a, ho, rfl, hv, fa, ta, da, hu, tl, fun x1 H1 s1 D1 => ?_⟩
  refine ⟨_, rfl, z3 (by show 3 ≤ 20; decide), fun t1 o1 h1 e1 => ?_⟩
  have s2 := same_new h1 (.frz o1 (.tup [.str "pair", x1, v2]))
  have D2 := dq_row2 (K := K) (H := upd H1 t1 (.frz o1 (.tup [.str "pair", x1, v2]))) (w := "pair") upd_same e1 (Dq.mono s2 _ _ D1) (Dq.mono (s1.trans s2) _ _ hv2)
  have sA := s1.trans s2
  generalize upd H1 t1 (.frz o1 (.tup [.str "pair", x1, v2])) = H2 at s2 D2 sA ⊢
  refine ⟨_, rfl, _, rfl, _, rfl, v2, u, b, ho, rfl, Dq.mono sA _ _ hv2, fb, tb, db, Dq.mono sA _ _ hu, tl, fun x2 H3 s3 D3 => ?_⟩
  refine ⟨z3 (by show 3 ≤ 20; decide), fun t2 o2 h2 e2 => ⟨z3 (by show 3 ≤ 20; decide), fun t3 o3 h3 e3 => ?_⟩⟩
  have s4 := same_new h2 (.frz o2 (.tup [.str "pair", v, x2]))
  have sB := sA.trans (s3.trans s4)
  have D4 := dq_row2 (K := K) (H := upd H3 t2 (.frz o2 (.tup [.str "pair", v, x2]))) (w := "pair") upd_same e2 (Dq.mono sB _ _ hv) (Dq.mono s4 _ _ D3)
  have D5 := Dq.mono (s3.trans s4) _ _ D2
  have s5 := same_new h3 (.frz o3 (.tup [.str "either", .ref t1, .ref t2]))
  exact q _ _ (sB.trans s5) (dq_row2 upd_same e3 (Dq.mono s5 _ _ D5) (Dq.mono s5 _ _ D4))
theorem w_one {w : Str} (h : w1 w = true) : V.str w = V.str "name" := of_decide_eq_true h
theorem w_two {w : Str} (h : w2 w = true) : V.str w = V.str "pair" ∨ V.str w = V.str "either" := by
  have h' : ((("pair" : Str) == w) || ((("either" : Str) == w) || false)) = true := h
  rw [Bool.or_false, Bool.or_eq_true] at h'
  rcases h' with z | z
  · exact .inl (by rw [eq_of_beq z])
  · exact .inr (by rw [eq_of_beq z])
theorem w_three {w : Str} (h : w3 w = true) : w = "thing" ∨ w = "none" ∨ w = "unit" := by
  have h' : ((("thing" : Str) == w) || ((("none" : Str) == w) || ((("unit" : Str) == w) || false))) = true := h
  rw [Bool.or_false, Bool.or_eq_true, Bool.or_eq_true] at h'
  rcases h' with z | z | z
  · exact .inl (eq_of_beq z).symm
  · exact .inr (.inl (eq_of_beq z).symm)
  · exact .inr (.inr (eq_of_beq z).symm)
theorem ok_kinM {f fC fH fP : Addr} {fd dC dH dP : FuncData} {n k : Nat} (hk : 2 ≤ k) (F : Fun K "kind_made" "kind_made" sKinM f fd) (N : Nc K mg) (C : Gv P w K mg base 1 "name_made" fC dC ["name", "hole"] (spCal K)) (HM : Gv P w K mg base 2 "hole_made" fH dH ["hole"] (spHo K))
    (R : Gv P w K mg base k "kind_made" f fd ["kind", "hole"] (spKm K n)) (PM : Gv P w K mg base (k + 1) "pair_made" fP dP ["first", "second", "hole"] (spPm K n)) : FnOk P w K mg base CX0 (k + 2) f fd ["kind", "hole"] (spKm K (n + 1)) := by
  refine F.ok scKinM (fun vs H Q E h => ?_) (fun cdv A outer s H vs Q E hr h => ?_)
  · obtain ⟨v, u, d, ho, rfl, _⟩ := h
    rfl
  obtain ⟨v, u, d, ho, rfl, hv, fm, tx, dd, hu, tl, q⟩ := h
  obtain ⟨aN, mN, dN⟩ := N.none
  have hr0 : Room k (A.deeper _) := hr.mono (by omega)
  have hr1 : Room 1 (A.deeper _) := hr.mono (by omega)
  have hr2 : Room 2 (A.deeper _) := hr.mono (by omega)
  refine ⟨_, pss_cons (ps_if (pt_cmpR (op_eqD hr.units) (pv 0) (pv 1) (nomark _)) (pss_one (ps_ret (pe_call HM.ok hr2 rfl HM.m HM.k HM.b .nil pass0 (pa_cons (pv 1) pa_nil)))) pss_nil)
    (pss_cons (ps_set (i := 2) scKinM.nd rfl (.inl rfl) (pe_ix ix_tup (pv 0) pe_int (fun _ _ => rfl)))
    (pss_cons (ps_if (pt_cmpR op_eq (pv 2) pe_str (nomark _)) (pss_one (ps_ret (pe_tupN (pa_cons pe_str (pa_cons (pe_call C.ok hr1 rfl C.m C.k C.b .nil pass0 (pa_cons (pe_ix ix_tup (pv 0) pe_int (fun _ _ => rfl)) (pa_cons (pv 1) pa_nil))) pa_nil))))) pss_nil)
    (pss_cons (ps_if (pt_cmpR op_eq (pv 2) pe_str (nomark _)) (pss_one (ps_ret (pe_tupN (pa_cons pe_str (pa_cons (pe_call R.ok hr0 rfl R.m R.k R.b .nil pass0 (pa_cons (pe_ix ix_tup (pv 0) pe_int (fun _ _ => rfl)) (pa_cons (pv 1) pa_nil)))
      (pa_cons (pe_call R.ok hr0 rfl R.m R.k R.b .nil pass0 (pa_cons (pe_ix ix_tup (pv 0) pe_int (fun _ _ => rfl)) (pa_cons (pv 1) pa_nil))) pa_nil)))))) pss_nil)
    (pss_cons (ps_if (pt_cmpR op_eq (pv 2) pe_str (nomark _)) (pss_one (ps_ret (pe_call PM.ok hr rfl PM.m PM.k PM.b .nil pass0 (pa_cons (pe_ix ix_tup (pv 0) pe_int (fun _ _ => rfl)) (pa_cons (pe_ix ix_tup (pv 0) pe_int (fun _ _ => rfl)) (pa_cons (pv 1) pa_nil)))))) pss_nil)
    (pss_one (ps_ret (pe_glob (v := .ref aN) rfl mN rfl))))))), ?_⟩
  have z3 : ∀ {k : Nat}, k ≤ 20 → k ≤ sizeLine := fun h => Nat.le_trans h (by decide)
  have sd := fB_st _ _ fm tx
  refine ⟨_, rfl, _, rfl, d, hoD ho, Dq.dp _ _ sd hv, Dq.dp _ _ (hoD_st tl) hu, shp sd (by omega), shp (hoD_st tl) (hoD_depth ho), _, rfl, ?_⟩
  cases e : PyData.eqv d (hoD ho) with
  | true =>
    refine iteT ⟨_, rfl, u, ho, rfl, hu, tl, fun x1 H1 s1 D1 => ?_⟩
    exact q x1 H1 s1 (by rw [kmd_hol _ _ _ e]; exact D1)
  | false =>
    have e' : ¬ PyData.eqv d (hoD ho) = true := by rw [e]; exact Bool.false_ne_true
    refine iteF ?_
    rcases fB_cases fm with ⟨w, rfl, hw⟩ | ⟨w, x, rfl, hw, _⟩ | ⟨m, w, a, b, en, rfl, hw, ha, hb⟩
    · obtain ⟨ad, xs, rfl, hx, hA⟩ := dq_tuple hv
      obtain ⟨x0, rs, rfl, g0, hA⟩ := dqAll_cons hA
      cases g0
      rw [kmd_one _ _ _ e'] at q
      refine ⟨_, rfl, ad, _, 0, _, rfl, rfl, hx, atI_nat (j := 0) rfl, ?_⟩
      have no1 : decide (V.str w = V.str "name") = false := by rcases w_three hw with rfl | rfl | rfl <;> decide +kernel
      have no2 : decide (V.str w = V.str "either") = false := by rcases w_three hw with rfl | rfl | rfl <;> decide +kernel
      have no3 : decide (V.str w = V.str "pair") = false := by rcases w_three hw with rfl | rfl | rfl <;> decide +kernel
      refine ⟨_, rfl, rfl, _, rfl, ?_⟩
      rw [no1]
      refine iteF ⟨_, rfl, rfl, _, rfl, ?_⟩
      rw [no2]
      refine iteF ⟨_, rfl, rfl, _, rfl, ?_⟩
      rw [no3]
      exact iteF (q _ H (Same.refl H) (dN H))
    · have hw' := w_one hw
      injection hw' with hw'
      subst hw'
      have tt : (txtB (.str "name") && (txtB (.str x) && true)) = true := tx
      simp only [Bool.and_eq_true] at tt
      have tx' : (PyData.strOk x && decide (x.length ≤ 2000)) = true := tt.2.1
      rw [Bool.and_eq_true, decide_eq_true_eq] at tx'
      obtain ⟨ad, xs, rfl, hx, hA⟩ := dq_tuple hv
      obtain ⟨x0, rs, rfl, g0, hA⟩ := dqAll_cons hA
      obtain ⟨x1, rs, rfl, g1, hA⟩ := dqAll_cons hA
      cases g0
      cases g1
      rw [kmd_nam _ _ _ _ e'] at q
      refine ⟨_, rfl, ad, _, 0, _, rfl, rfl, hx, atI_nat (j := 0) rfl, ?_⟩
      refine ⟨_, rfl, rfl, _, rfl, ?_⟩
      refine iteT ⟨_, rfl, ad, _, 1, _, rfl, rfl, hx, atI_nat (j := 1) rfl, _, rfl, x, u, ho, rfl, hu, tx', ho_up tl, ?_⟩
      refine ⟨z3 (by show 2 ≤ 20; decide), fun t1 o1 h1 e1 => ?_⟩
      exact q _ _ (same_new h1 _) (dq_row1 upd_same e1 (.str _))
    · have en' : n = m := by omega
      subst en'
      have tt : (txtB (.str w) && (txtB a && (txtB b && true))) = true := tx
      simp only [Bool.and_eq_true] at tt
      rw [depth_row] at dd
      rw [kmd_row _ _ _ _ _ e'] at q
      obtain ⟨ad, xs, rfl, hx, hA⟩ := dq_tuple hv
      obtain ⟨x0, rs, rfl, g0, hA⟩ := dqAll_cons hA
      obtain ⟨x1, rs, rfl, g1, hA⟩ := dqAll_cons hA
      obtain ⟨x2, rs, rfl, g2, hA⟩ := dqAll_cons hA
      cases g0
      have no1 : decide (V.str w = V.str "name") = false := by rcases w_two hw with z | z <;> rw [z] <;> decide +kernel
      refine ⟨_, rfl, ad, _, 0, _, rfl, rfl, hx, atI_nat (j := 0) rfl, ?_⟩
      refine ⟨_, rfl, rfl, _, rfl, ?_⟩
      rw [no1]
      refine iteF ⟨_, rfl, rfl, _, rfl, ?_⟩
      rcases w_two hw with z | z
      · injection z with z
        subst z
        have en1 : wE "pair" = false := by decide +kernel
        rw [en1, if_neg Bool.false_ne_true] at q
        have no2 : decide (V.str "pair" = V.str "either") = false := by decide +kernel
        rw [no2]
        refine iteF ⟨_, rfl, rfl, _, rfl, ?_⟩
        refine iteT ⟨_, rfl, ad, _, 1, _, rfl, rfl, hx, atI_nat (j := 1) rfl, _, rfl, ad, _, 2, _, rfl, rfl, hx, atI_nat (j := 2) rfl, _, rfl, ?_⟩
        exact ⟨x1, x2, u, a, b, ho, rfl, g1, g2, ⟨ha, tt.2.1, by omega⟩, ⟨hb, tt.2.2.1, by omega⟩, hu, tl, q⟩
      · injection z with z
        subst z
        have en1 : wE "either" = true := by decide +kernel
        rw [en1, if_pos rfl] at q
        refine iteT ⟨_, rfl, ad, _, 1, _, rfl, rfl, hx, atI_nat (j := 1) rfl, _, rfl, x1, u, a, ho, rfl, g1, ha, tt.2.1, by omega, hu, tl, fun y1 H1 s1 D1 => ?_⟩
        refine ⟨_, rfl, ad, _, 2, _, rfl, rfl, s1.seqT hx, atI_nat (j := 2) rfl, _, rfl, x2, u, b, ho, rfl, Dq.mono s1 _ _ g2, hb, tt.2.2.1, by omega, Dq.mono s1 _ _ hu, tl, fun y2 H2 s2 D2 => ?_⟩
        refine ⟨z3 (by show 3 ≤ 20; decide), fun t1 o1 h1 e1 => ?_⟩
        have s3 := same_new h1 (.frz o1 (.tup [.str "either", y1, y2]))
        exact q _ _ (s1.trans (s2.trans s3)) (dq_row2 upd_same e1 (Dq.mono (s2.trans s3) _ _ D1) (Dq.mono s3 _ _ D2))
theorem none_leftKi {f : Addr} {fd : FuncData} {k : Nat} : FnOk P w K mg base CX0 k f fd ["kind", "hole"] (spKm K 0) := ⟨fun _ _ _ _ h => by
    obtain ⟨v, u, d, ho, rfl, _⟩ := h
    rfl, fun _ _ _ _ _ _ _ _ _ _ _ _ _ h => by
    obtain ⟨v, u, d, ho, _, _, f, _⟩ := h
    cases f⟩
/-- each depth -/
theorem kindsM {f fC fH fP : Addr} {fd dC dH dP : FuncData} (F : Fun K "kind_made" "kind_made" sKinM f fd) (bF : Binds K fd ["kind", "hole"] []) (mF : mg "kind_made" = some (.ref f)) (FP : Fun K "pair_made" "pair_made" sPaiM fP dP) (bP : Binds K dP ["first", "second", "hole"] []) (mP : mg "pair_made" = some (.ref fP))
    (N : Nc K mg) (C : Gv P w K mg base 1 "name_made" fC dC ["name", "hole"] (spCal K)) (HM : Gv P w K mg base 2 "hole_made" fH dH ["hole"] (spHo K)) : ∀ n : Nat, Gv P w K mg base (2 + 2 * n) "kind_made" f fd ["kind", "hole"] (spKm K n)
  | 0 => ⟨none_leftKi, bF, F.kp, mF⟩
  | n + 1 =>
    have R := kindsM F bF mF FP bP mP N C HM n
    ⟨ok_kinM (n := n) (k := 2 + 2 * n) (by omega) F N C HM R ⟨ok_paiM FP R, bP, FP.kp, mP⟩, bF, F.kp, mF⟩
end
end Toy
set_option Elab.async false
set_option linter.all false
set_option maxRecDepth 100000
set_option maxHeartbeats 2000000
namespace Toy
open PySem L2 PyProof.Rows
abbrev sMadeOf : Stmt := top 24
abbrev sIsKnown : Stmt := top 37
abbrev sKnHole : Stmt := top 38
abbrev sByRules : Stmt := top 35
/-! ### a book's table -/
def lookB (bk : List (Str × PyData)) (x : Str) : Option PyData := (bk.find? fun p => decide (p.1 = x)).map (·.2)
def TabR (K : PySem.W.Frag) (H : Hp) (kv : Key × V) (p : Str × PyData) : Prop := kv.1 = .inr p.1 ∧ Dq K H kv.2 p.2
def Tab (K : PySem.W.Frag) (H : Hp) (t : Addr) (bk : List (Str × PyData)) : Prop := ∃ kvs, H t = some (.dK kvs) ∧ Paired (TabR K H) kvs bk
theorem paired_imp {α β : Type} {R R' : α → β → Prop} (h : ∀ a b, R a b → R' a b) : ∀ {xs : List α} {ys : List β}, Paired R xs ys → Paired R' xs ys
  | _, _, .nil => .nil
  | _, _, .cons r t => .cons (h _ _ r) (paired_imp h t)
theorem Tab.on {K : PySem.W.Frag} {H H' : Hp} {t : Addr} {bk : List (Str × PyData)} (e : Same H H') (h : Tab K H t bk) : Tab K H' t bk := by
  obtain ⟨kvs, a, r⟩ := h
  exact ⟨kvs, e _ _ a, paired_imp (fun kv p z => ⟨z.1, Dq.mono e _ _ z.2⟩) r⟩
theorem tab_look {K : PySem.W.Frag} {H : Hp} {x : Str} : ∀ {kvs : List (Key × V)} {bk : List (Str × PyData)}, Paired (TabR K H) kvs bk → (valV kvs (.inr x) = none ∧ lookB bk x = none) ∨ ∃ v d, valV kvs (.inr x) = some v ∧ lookB bk x = some d ∧ Dq K H v d
  | _, _, .nil => .inl ⟨rfl, rfl⟩
  | _, _, .cons (a := kv) (b := p) r t => by
    obtain ⟨e, D⟩ := r
    unfold valV lookB
    rw [List.find?_cons, List.find?_cons]
    by_cases z : p.1 = x
    · have z1 : decide (kv.1 = .inr x) = true := decide_eq_true (by rw [e, z])
      rw [z1, decide_eq_true z]
      exact .inr ⟨_, _, rfl, rfl, D⟩
    · have z1 : decide (kv.1 = .inr x) = false := decide_eq_false (fun q => z (by rw [e] at q; injection q))
      rw [z1, decide_eq_false z]
      exact tab_look t
theorem Tab.get {K : PySem.W.Frag} {H : Hp} {t : Addr} {bk : List (Str × PyData)} (h : Tab K H t bk) (x : Str) : (DGet H t (.str x) none ∧ lookB bk x = none) ∨ ∃ v d, DGet H t (.str x) (some v) ∧ lookB bk x = some d ∧ Dq K H v d := by
  obtain ⟨kvs, a, r⟩ := h
  have g := DGet.k (k := .inr x) a
  rcases tab_look (x := x) r with ⟨e, l⟩ | ⟨v, d, e, l, D⟩
  · rw [e] at g
    exact .inl ⟨g, l⟩
  · rw [e] at g
    exact .inr ⟨v, d, g, l, D⟩
theorem Tab.has {K : PySem.W.Frag} {H : Hp} {t : Addr} {bk : List (Str × PyData)} (h : Tab K H t bk) (x : Str) : ∃ o, DGet H t (.str x) o ∧ o.isSome = (lookB bk x).isSome := by
  rcases h.get x with ⟨g, l⟩ | ⟨v, d, g, l, _⟩
  · exact ⟨_, g, by rw [l]; rfl⟩
  · exact ⟨_, g, by rw [l]; rfl⟩
/-- a kind, all of whose names the book has -/
def knB (m : Nat) (bk : List (Str × PyData)) (d : PyData) : Bool := kdB m d && (ms m d).2.2.all fun x => (lookB bk x).isSome
def spKn (K : PySem.W.Frag) (m : Nat) : Sp := fun vs H Q _ => ∃ (t : Addr) (v : V) (d : PyData) (bk : List (Str × PyData)), vs = [.ref t, v] ∧ Tab K H t bk ∧ Dq K H v d ∧ txtB d = true ∧ d.depth ≤ m ∧ ∀ H', Same H H' → Q (.bl (knB m bk d)) H'
theorem perm_all {α : Type} {f : α → Bool} {a b : List α} (h : a.Perm b) : a.all f = b.all f := by
  apply Bool.eq_iff_iff.mpr
  rw [List.all_eq_true, List.all_eq_true]
  exact ⟨fun z x m => z x (h.mem_iff.mpr m), fun z x m => z x (h.mem_iff.mp m)⟩
section
variable {P : Program} {w : World} {K : PySem.W.Frag} {mg : Str → Option Value} {base : Heap} {m : Nat}
theorem scKn : FnScope ["table", "value", "parts", "name"] ["table", "value"] (defScope sIsKnown) := ⟨rfl, rfl, rfl, by decide +kernel, rfl, by decide +kernel, by decide +kernel⟩
theorem ok_known {f gP gN : Addr} {fd dP dN : FuncData} (F : Fun K "is_known" "is_known" sIsKnown f fd) (T : Nk mg) (PF : Gv P w K mg base 4 "parts_found" gP dP ["value"] (spPf K)) (NA : Gv P w K mg base 1 "names_among" gN dN ["parts"] (spNa K)) : FnOk P w K mg base CX0 5 f fd ["table", "value"] (spKn K m) := by
  refine F.ok scKn (fun vs H Q E h => ?_) (fun cdv A outer s H vs Q E hr h => ?_)
  · obtain ⟨t, v, d, bk, rfl, _⟩ := h
    rfl
  obtain ⟨t, v, d, bk, rfl, tb, hd, ht, hdp, q⟩ := h
  have hr1 : Room 1 (A.deeper _) := hr.mono (by omega)
  refine ⟨_, pss_cons (ps_set (i := 2) scKn.nd rfl (.inl rfl) (pe_call PF.ok hr rfl PF.m PF.k PF.b .nil pass0 (pa_cons (pv 1) pa_nil)))
    (pss_one (ps_ret (pe_and (pe_cmpR op_notN (pv 2) pe_non (nomark _)) (pe_one (pe_callB (cr_all rfl) rfl T.all (by decide +kernel)
      (pa_cons (pe_lc (own := [("name", 3)]) (g := gName 3) (tt := tYes) rfl scKn.nd (pi_list (pe_call NA.ok hr1 rfl NA.m NA.k NA.b .nil pass0 (pa_cons (pv 2) pa_nil))) (blkOk_by (own := [("name", 3)]) (N := ["table", "value", "parts", "name"]) (sc := defScope sIsKnown) (by decide +kernel))
        (fun _ _ _ _ _ => pg_name (i := 3) scKn.nd rfl (.inl rfl)) (fun _ _ _ _ _ => pts_nil) (fun _ _ _ _ _ => pe_cmp (pc_din (Nat.lt_of_le_of_lt (Nat.add_le_add_left (by decide : 1 ≤ 64) _) hr.units) (pv 3) (pv 0)))) pa_nil)))))), ?_⟩
  refine ⟨_, rfl, v, d, H, rfl, Same.refl H, hd, ht, fun u H1 s1 res => ?_⟩
  refine ⟨_, rfl, ?_⟩
  rw [pf_kd hdp] at res
  cases hk : kdB m d with
  | false =>
    have e : knB m bk d = false := by unfold knB; rw [hk]; rfl
    rw [hk, if_neg Bool.false_ne_true] at res
    obtain rfl : u = .non := res
    rw [e] at q
    exact ⟨rfl, _, rfl, iteF (q H1 s1)⟩
  | true =>
    rw [hk, if_pos rfl] at res
    obtain ⟨l, fs, rfl, hl, hR⟩ := res
    have e : knB m bk d = (nmsOf (prt m d 1)).all fun x => (lookB bk x).isSome := by
      unfold knB
      rw [hk, Bool.true_and, perm_all (prt_names m d 1 (kd_form hk))]
    rw [e] at q
    have hz : (prt m d 1).length ≤ 2000 := by
      rw [prt_len]
      have hk' := hk
      unfold kdB at hk'
      rw [Bool.and_eq_true, Bool.and_eq_true] at hk'
      exact of_decide_eq_true hk'.2.2
    refine ⟨rfl, _, rfl, iteT ⟨_, rfl, ?_⟩⟩
    refine ⟨l, fs, H, _, rfl, hl, hR, s1, by omega, prt_frm m d 1 (kd_form hk), fun L H2 s2 hL => ?_⟩
    refine ⟨L, rfl, ⟨_, SqL.of hL⟩, fun D nD => ?_⟩
    have hlen := names_le (prt m d 1)
    generalize nmsOf (prt m d 1) = nl at hL q hlen
    refine lc_it (walk_list (xs := nl.map V.str)) (fun i H4 => Same H2 H4 ∧ H4 D = some (.lst ((nl.take i).map fun x => V.bl (lookB bk x).isSome))) ⟨same_new nD _, upd_same⟩ (fun i H4 _ z => SqL.of (z.1 _ _ hL)) ?_ ?_
    · rintro i y H4 _ hi ⟨s4, hD⟩ ⟨rfl, hy⟩
      refine ⟨rfl, ?_⟩
      simp only [tYes, ↓reduceIte]
      obtain ⟨x, hx, rfl⟩ : ∃ x, nl[i]? = some x ∧ V.str x = y := by
        rw [List.getElem?_map] at hy
        cases z : nl[i]? with
        | none => rw [z] at hy; cases hy
        | some x => rw [z] at hy; exact ⟨x, rfl, Option.some.inj hy⟩
      obtain ⟨o, g, eo⟩ := ((tb.on s1).on (s2.trans s4)).has x
      refine ⟨_, rfl, _, rfl, t, o, rfl, g, _, hD, ?_, fun b o e => by rw [upd_ne (ne_of_none e nD)]; exact s4 _ _ e, ?_⟩
      · rw [List.length_map]
        exact Nat.lt_of_le_of_lt (Nat.le_trans (List.length_take_le' _ _) (by omega : nl.length ≤ 2000)) (by decide)
      · rw [upd_same, List.take_add_one, hx, eo]
        simp only [Option.toList, List.map_append, List.map_cons, List.map_nil]
    · rintro H4 ⟨s4, hD⟩
      rw [List.length_map, List.take_length] at hD
      refine ⟨D, nl.map fun x => (lookB bk x).isSome, rfl, SqL.of (by rw [hD, List.map_map]; rfl), ?_⟩
      have e : (nl.map fun x => (lookB bk x).isSome).all id = nl.all fun x => (lookB bk x).isSome := by rw [List.all_map]; rfl
      rw [e]
      exact q H4 (s1.trans (s2.trans s4))
end
end Toy
set_option Elab.async false
set_option linter.all false
set_option maxRecDepth 100000
set_option maxHeartbeats 2000000
namespace Toy
open PySem L2 PyProof.Rows
/-! ### depth of a form -/
theorem fB_ms : ∀ (m : Nat) (d : PyData) (n : Nat), fB m d = true → (ms m d).1 ≤ n → fB n d = true ∧ d.depth ≤ (ms m d).1 ∧ 1 ≤ n
  | 0, _, _, h, _ => nomatch h
  | m + 1, d, n, h, le => by
    rcases fB_cases h with ⟨w, rfl, hw⟩ | ⟨w, x, rfl, hw, hx⟩ | ⟨m', w, a, b, em, rfl, hw, ha, hb⟩
    · have e : (ms (m + 1) (.tuple [.str w])).1 = 1 := rfl
      rw [e] at le ⊢
      obtain ⟨n, rfl⟩ : ∃ k, n = k + 1 := ⟨n - 1, by omega⟩
      refine ⟨by rw [fB_one]; exact hw, ?_, by omega⟩
      simp only [PyData.depth, PyData.depthAll]; omega
    · have e : (ms (m + 1) (.tuple [.str w, .str x])).1 = 1 := rfl
      rw [e] at le ⊢
      obtain ⟨n, rfl⟩ : ∃ k, n = k + 1 := ⟨n - 1, by omega⟩
      refine ⟨by rw [fB_nam, hw, hx]; rfl, ?_, by omega⟩
      simp only [PyData.depth, PyData.depthAll]; omega
    · have em' : m = m' := by omega
      subst em'
      have e : (ms (m + 1) (.tuple [.str w, a, b])).1 = max (ms m a).1 (ms m b).1 + 1 := rfl
      rw [e] at le ⊢
      obtain ⟨n, rfl⟩ : ∃ k, n = k + 1 := ⟨n - 1, by omega⟩
      obtain ⟨a1, a2, _⟩ := fB_ms m a n ha (by omega)
      obtain ⟨b1, b2, _⟩ := fB_ms m b n hb (by omega)
      refine ⟨by rw [fB_two, hw, a1, b1]; rfl, ?_, by omega⟩
      rw [depth_row]; omega
theorem kd_down {m : Nat} {d : PyData} (h : kdB m d = true) : fB 30 d = true ∧ d.depth ≤ 30 := by
  unfold kdB at h
  rw [Bool.and_eq_true, Bool.and_eq_true, decide_eq_true_eq] at h
  obtain ⟨a, b, _⟩ := fB_ms m d 30 h.1 h.2.1
  exact ⟨a, Nat.le_trans b h.2.1⟩
/-! ### holes -/
def hoB : PyData → Bool
  | .tuple [.str w] => decide (V.str w = V.str "thing")
  | .tuple [.str w, x] => w1 w && wrB (nmX x)
  | _ => false
def khB (m : Nat) (bk : List (Str × PyData)) (d : PyData) : Bool := knB m bk d && hoB d
def spKh (K : PySem.W.Frag) (m : Nat) : Sp := fun vs H Q _ => ∃ (t : Addr) (v : V) (d : PyData) (bk : List (Str × PyData)), vs = [.ref t, v] ∧ Tab K H t bk ∧ Dq K H v d ∧ txtB d = true ∧ d.depth ≤ m ∧ ∀ H', Same H H' → Q (.bl (khB m bk d)) H'
theorem kn_form {m : Nat} {bk : List (Str × PyData)} {d : PyData} (h : knB m bk d = true) : fB m d = true := by
  unfold knB at h
  rw [Bool.and_eq_true] at h
  exact kd_form h.1
theorem w1_dec (w : Str) : w1 w = decide (V.str w = V.str "name") := rfl
/-! ### the last tick of a name -/
def stemOf (x : Str) : Str := (Txt.rpartition x quo).1
def lastOf (x : Str) : Str := (Txt.rpartition x quo).2.2
def hoOf (y : Str) : Ho := if decide (V.str y = V.str "") = true then .th else .nm y
theorem sub_ok {x : Str} {n : Nat} (h : txtOk x n) (i j : Nat) : txtOk (Builtin.Str.strSub x i j) n := by
  refine ⟨?_, ?_⟩
  · have h1 := h.1
    unfold PyData.strOk
    rw [← Array.all_toList]
    refine List.all_eq_true.mpr fun c m => decide_eq_true (ok_code h1 ?_)
    have m' : c ∈ (x.cps.extract i j).toList := m
    rw [Array.toList_extract] at m'
    exact List.mem_of_mem_drop (List.mem_of_mem_take m')
  · refine Nat.le_trans ?_ h.2
    show (x.cps.extract i j).size ≤ x.cps.size
    rw [Array.size_extract]
    omega
theorem stem_ok {x : Str} {n : Nat} (h : txtOk x n) : txtOk (stemOf x) n ∧ txtOk (lastOf x) n := by
  unfold stemOf lastOf Txt.rpartition
  cases Builtin.Str.lastOccurrence x quo 0 x.length with
  | none => exact ⟨(⟨by decide +kernel, Nat.le_trans (by decide +kernel : Str.length Str.empty ≤ 0) (Nat.zero_le n)⟩ : txtOk Str.empty n), h⟩
  | some i => exact ⟨sub_ok h _ _, sub_ok h _ _⟩
theorem hoOf_ok {y : Str} {n : Nat} (h : txtOk y n) : txtOk (hoT (hoOf y)) n := by
  unfold hoOf
  by_cases z : decide (V.str y = V.str "") = true
  · rw [if_pos z]
    exact ⟨by decide +kernel, Nat.le_trans (by decide +kernel : Str.length (hoT .th) ≤ 0) (Nat.zero_le n)⟩
  · rw [if_neg z]
    exact h
def spMo (K : PySem.W.Frag) : Sp := fun vs H Q _ => ∃ (x : Str), vs = [.str x] ∧ txtOk x 2000 ∧ ∀ (t : Addr) (u : V) (H' : Hp), Same H H' → H' t = some (.tup [.str (stemOf x), u]) → Dq K H' u (hoD (hoOf (lastOf x))) → Q (.ref t) H'
section
variable {P : Program} {w : World} {K : PySem.W.Frag} {mg : Str → Option Value} {base : Heap} {m : Nat}
theorem scKh : FnScope ["table", "value"] ["table", "value"] (defScope sKnHole) := ⟨rfl, rfl, rfl, by decide +kernel, rfl, by decide +kernel, by decide +kernel⟩
theorem scMo : FnScope ["name", "stem", "_", "last"] ["name"] (defScope sMadeOf) := ⟨rfl, rfl, rfl, by decide +kernel, rfl, by decide +kernel, by decide +kernel⟩
theorem ok_knhole {f gK gW : Addr} {fd dK dW : FuncData} (F : Fun K "is_known_hole" "is_known_hole" sKnHole f fd) (KN : Gv P w K mg base 5 "is_known" gK dK ["table", "value"] (spKn K m)) (W : Gv P w K mg base 1 "is_written" gW dW ["text"] spWr) : FnOk P w K mg base CX0 6 f fd ["table", "value"] (spKh K m) := by
  refine F.ok scKh (fun vs H Q E h => ?_) (fun cdv A outer s H vs Q E hr h => ?_)
  · obtain ⟨t, v, d, bk, rfl, _⟩ := h
    rfl
  obtain ⟨t, v, d, bk, rfl, tb, hd, ht, hdp, q⟩ := h
  have hr1 : Room 1 (A.deeper _) := hr.mono (by omega)
  refine ⟨_, pss_cons (ps_if (pt_not (pt_val (pe_call KN.ok hr rfl KN.m KN.k KN.b .nil pass0 (pa_cons (pv 0) (pa_cons (pv 1) pa_nil))))) (pss_one (ps_ret pe_bl)) pss_nil)
    (pss_one (ps_ret (pe_or (pe_cmpR op_eq (pe_ix ix_tup (pv 1) pe_int (fun _ _ => rfl)) pe_str (nomark _)) (pe_one (pe_and (pe_cmpR op_eq (pe_ix ix_tup (pv 1) pe_int (fun _ _ => rfl)) pe_str (nomark _)) (pe_one (pe_call W.ok hr1 rfl W.m W.k W.b .nil pass0 (pa_cons (pe_ix ix_tup (pv 1) pe_int (fun _ _ => rfl)) pa_nil)))))))), ?_⟩
  have z3 : ∀ {k : Nat}, k ≤ 2000 → k ≤ sizeLine := fun h => Nat.le_trans h (by decide)
  refine ⟨_, rfl, _, rfl, t, v, d, bk, rfl, tb, hd, ht, hdp, fun H1 s1 => ⟨_, rfl, ?_⟩⟩
  unfold khB at q
  cases hk : knB m bk d with
  | false =>
    rw [hk] at q
    exact iteT (q H1 s1)
  | true =>
    rw [hk, Bool.true_and] at q
    refine iteF ?_
    have hd1 := Dq.mono s1 _ _ hd
    rcases fB_cases (kn_form hk) with ⟨w, rfl, hw⟩ | ⟨w, x, rfl, hw, _⟩ | ⟨m', w, a, b, en, rfl, hw, ha, hb⟩
    · obtain ⟨ad, xs, rfl, hx, hA⟩ := dq_tuple hd1
      obtain ⟨x0, rs, rfl, g0, hA⟩ := dqAll_cons hA
      cases g0
      have e : hoB (.tuple [.str w]) = decide (V.str w = V.str "thing") := rfl
      rw [e] at q
      refine ⟨_, rfl, ad, _, 0, _, rfl, rfl, hx, atI_nat (j := 0) rfl, rfl, _, rfl, ?_⟩
      cases hz : decide (V.str w = V.str "thing") with
      | true =>
        rw [hz] at q
        exact iteT (q H1 s1)
      | false =>
        rw [hz] at q
        have no : decide (V.str w = V.str "name") = false := by rcases w_three hw with rfl | rfl | rfl <;> decide +kernel
        refine iteF ⟨_, rfl, ad, _, 0, _, rfl, rfl, hx, atI_nat (j := 0) rfl, rfl, _, rfl, ?_⟩
        rw [no]
        exact iteF (q H1 s1)
    · have hw' := w_one hw
      injection hw' with hw'
      subst hw'
      have tt : (txtB (.str "name") && (txtB (.str x) && true)) = true := ht
      simp only [Bool.and_eq_true] at tt
      have tx' : (PyData.strOk x && decide (x.length ≤ 2000)) = true := tt.2.1
      rw [Bool.and_eq_true, decide_eq_true_eq] at tx'
      obtain ⟨ad, xs, rfl, hx, hA⟩ := dq_tuple hd1
      obtain ⟨x0, rs, rfl, g0, hA⟩ := dqAll_cons hA
      obtain ⟨x1, rs, rfl, g1, hA⟩ := dqAll_cons hA
      cases g0
      cases g1
      have e : hoB (.tuple [.str "name", .str x]) = wrB x := by
        show (w1 "name" && wrB x) = _
        rw [hw]
        rfl
      rw [e] at q
      have no : decide (V.str "name" = V.str "thing") = false := by decide +kernel
      refine ⟨_, rfl, ad, _, 0, _, rfl, rfl, hx, atI_nat (j := 0) rfl, rfl, _, rfl, ?_⟩
      rw [no]
      refine iteF ⟨_, rfl, ad, _, 0, _, rfl, rfl, hx, atI_nat (j := 0) rfl, rfl, _, rfl, ?_⟩
      refine iteT ⟨_, rfl, ad, _, 1, _, rfl, rfl, hx, atI_nat (j := 1) rfl, x, rfl, z3 tx'.2, tx'.1, fun H2 s2 => q H2 (s1.trans s2)⟩
    · obtain ⟨ad, xs, rfl, hx, hA⟩ := dq_tuple hd1
      obtain ⟨x0, rs, rfl, g0, hA⟩ := dqAll_cons hA
      cases g0
      have e : hoB (.tuple [.str w, a, b]) = false := rfl
      rw [e] at q
      have no : decide (V.str w = V.str "thing") = false := by rcases w_two hw with z | z <;> rw [z] <;> decide +kernel
      have no2 : decide (V.str w = V.str "name") = false := by rcases w_two hw with z | z <;> rw [z] <;> decide +kernel
      refine ⟨_, rfl, ad, _, 0, _, rfl, rfl, hx, atI_nat (j := 0) rfl, rfl, _, rfl, ?_⟩
      rw [no]
      refine iteF ⟨_, rfl, ad, _, 0, _, rfl, rfl, hx, atI_nat (j := 0) rfl, rfl, _, rfl, ?_⟩
      rw [no2]
      exact iteF (q H1 s1)
theorem ok_madeof {f : Addr} {fd : FuncData} (F : Fun K "made_of" "made_of" sMadeOf f fd) (N : Nc K mg) : FnOk P w K mg base CX0 1 f fd ["name"] (spMo K) := by
  refine F.ok scMo (fun vs H Q E h => ?_) (fun cdv A outer s H vs Q E hr h => ?_)
  · obtain ⟨x, rfl, _⟩ := h
    rfl
  obtain ⟨x, rfl, tx, q⟩ := h
  obtain ⟨aT, mT, dT⟩ := N.thing
  refine ⟨_, pss_cons (ps_asg (pe_rpartition (pv 0) pe_str) (pg_tup rfl (pgs_cons (pg_name (i := 1) scMo.nd rfl (.inl rfl)) (pgs_cons (pg_name (i := 2) scMo.nd rfl (.inl rfl)) (pgs_cons (pg_name (i := 3) scMo.nd rfl (.inl rfl)) pgs_nil)))))
    (pss_one (ps_ret (pe_tup (pa_cons (pv 1) (pa_cons (pe_ifExp (pt_cmpR op_eq (pv 3) pe_str (nomark _)) (pe_glob (v := .ref aT) rfl mT rfl) (pe_tupN (pa_cons pe_str (pa_cons (pv 3) pa_nil)))) pa_nil))))), ?_⟩
  have z3 : ∀ {k : Nat}, k ≤ 2000 → k ≤ sizeLine := fun h => Nat.le_trans h (by decide)
  have lx := tx.2
  refine ⟨_, rfl, ⟨_, rfl⟩, x, quo, rfl, rfl, by decide, z3 (by omega), fun p hp => ?_⟩
  have sp := same_new hp (.tup [.str (stemOf x), .str (Txt.rpartition x quo).2.1, .str (lastOf x)])
  have ep : upd H p (.tup [.str (stemOf x), .str (Txt.rpartition x quo).2.1, .str (lastOf x)]) p = some (.tup [.str (stemOf x), .str (Txt.rpartition x quo).2.1, .str (lastOf x)]) := upd_same
  have fin : ∀ (u : V) (H2 : Hp), Same (upd H p (.tup [.str (stemOf x), .str (Txt.rpartition x quo).2.1, .str (lastOf x)])) H2 → Dq K H2 u (hoD (hoOf (lastOf x))) → [V.str (stemOf x), u].length ≤ sizeLine ∧ ∀ t, H2 t = none → Q (.ref t) (upd H2 t (.tup [.str (stemOf x), u])) := fun u H2 s2 D =>
    ⟨z3 (by show 2 ≤ 2000; decide), fun t ht => q t u _ (sp.trans (s2.trans (same_new ht _))) upd_same (Dq.mono (same_new ht _) _ _ D)⟩
  refine ⟨p, _, rfl, SqT.of ep, rfl, _, _, rfl, _, _, rfl, _, _, rfl, rfl, ?_⟩
  refine ⟨_, rfl, _, rfl, rfl, _, rfl, ?_⟩
  show if decide (V.str (lastOf x) = V.str "") = true then _ else _
  cases hz : decide (V.str (lastOf x) = V.str "") with
  | true =>
    have e : hoOf (lastOf x) = .th := if_pos hz
    rw [e] at fin
    exact iteT (fin _ _ (Same.refl _) (dT _))
  | false =>
    have e : hoOf (lastOf x) = .nm (lastOf x) := if_neg (by rw [hz]; exact Bool.false_ne_true)
    rw [e] at fin
    exact iteF ⟨_, rfl, z3 (by show 2 ≤ 2000; decide), fun t2 o2 h2 e2 => fin _ _ (same_new h2 _) (dq_row1 upd_same e2 (.str _))⟩
/-! ### a name by a hole has the kind that the rules make -/
def ruB (m : Nat) (bk : List (Str × PyData)) (x : Str) (d : PyData) : Bool := wrB x || match lookB bk (stemOf x) with
  | some k => khB m bk (hoD (hoOf (lastOf x))) && PyData.eqv d (kmd 30 k (hoOf (lastOf x)))
  | none => false
/-- each kind of the book is one -/
def BkOk (m : Nat) (bk : List (Str × PyData)) : Prop := ∀ p ∈ bk, kdB m p.2 = true ∧ txtB p.2 = true ∧ p.2.depth ≤ m
theorem look_mem {bk : List (Str × PyData)} {x : Str} {d : PyData} (h : lookB bk x = some d) : ∃ p ∈ bk, p.1 = x ∧ p.2 = d := by
  unfold lookB at h
  cases e : bk.find? fun p => decide (p.1 = x) with
  | none => rw [e] at h; cases h
  | some p =>
    rw [e] at h
    exact ⟨p, List.mem_of_find?_eq_some e, (by have z := List.find?_some e; exact of_decide_eq_true z), Option.some.inj h⟩
def spRu (K : PySem.W.Frag) (m : Nat) : Sp := fun vs H Q _ => ∃ (t : Addr) (x : Str) (d : PyData) (bk : List (Str × PyData)), vs = [.ref t, .str x] ∧ Tab K H t bk ∧ BkOk m bk ∧ txtOk x 60 ∧ lookB bk x = some d ∧ ∀ H', Same H H' → Q (.bl (ruB m bk x d)) H'
theorem scRu : FnScope ["table", "name", "stem", "hole"] ["table", "name"] (defScope sByRules) := ⟨rfl, rfl, rfl, by decide +kernel, rfl, by decide +kernel, by decide +kernel⟩
theorem hoD_txt {h : Ho} (k : hoOk h) : txtB (hoD h) = true := by
  cases h with
  | th => decide +kernel
  | nm y =>
    have k' : txtOk y 60 := k
    show ((PyData.strOk "name" && decide (Str.length "name" ≤ 2000)) && ((PyData.strOk y && decide (y.length ≤ 2000)) && true)) = true
    rw [k'.1, decide_eq_true (show y.length ≤ 2000 by have := k'.2; omega)]
    decide +kernel
theorem hoD_d1 (h : Ho) : (hoD h).depth ≤ 1 := by
  cases h with
  | th => decide
  | nm y => simp only [hoD, PyData.depth, PyData.depthAll]; omega
theorem ok_byrules {f gW gM gH gK : Addr} {fd dW dM dH dK : FuncData} (h1 : 1 ≤ m) (F : Fun K "is_made_by_rules" "is_made_by_rules" sByRules f fd) (W : Gv P w K mg base 1 "is_written" gW dW ["text"] spWr) (MO : Gv P w K mg base 1 "made_of" gM dM ["name"] (spMo K))
    (KH : Gv P w K mg base 6 "is_known_hole" gH dH ["table", "value"] (spKh K m)) (KM : Gv P w K mg base 62 "kind_made" gK dK ["kind", "hole"] (spKm K 30)) : FnOk P w K mg base CX0 63 f fd ["table", "name"] (spRu K m) := by
  refine F.ok scRu (fun vs H Q E h => ?_) (fun cdv A outer s H vs Q E hr h => ?_)
  · obtain ⟨t, x, d, bk, rfl, _⟩ := h
    rfl
  obtain ⟨t, x, d, bk, rfl, tb, bo, tx, hl, q⟩ := h
  have hr1 : Room 1 (A.deeper _) := hr.mono (by omega)
  have hr6 : Room 6 (A.deeper _) := hr.mono (by omega)
  have hu1 := Nat.lt_of_le_of_lt (Nat.add_le_add_left (by decide : 1 ≤ 64) _) hr.units
  refine ⟨_, pss_cons (ps_if (pt_val (pe_call W.ok hr1 rfl W.m W.k W.b .nil pass0 (pa_cons (pv 1) pa_nil))) (pss_one (ps_ret pe_bl)) pss_nil)
    (pss_cons (ps_asg (pe_call MO.ok hr1 rfl MO.m MO.k MO.b .nil pass0 (pa_cons (pv 1) pa_nil)) (pg_tup rfl (pgs_cons (pg_name (i := 2) scRu.nd rfl (.inl rfl)) (pgs_cons (pg_name (i := 3) scRu.nd rfl (.inl rfl)) pgs_nil))))
    (pss_cons (ps_if (PW.pt (pw_or (pt_cmp (pc_dnotin hu1 (pv 2) (pv 0))) (pw_or1 (pt_not (pt_val (pe_call KH.ok hr6 rfl KH.m KH.k KH.b .nil pass0 (pa_cons (pv 0) (pa_cons (pv 3) pa_nil)))))))) (pss_one (ps_ret pe_bl)) pss_nil)
    (pss_one (ps_ret (pe_cmpR (op_eqD hr.units) (pe_dget hu1 (pv 0) (pv 1) (fun _ _ => rfl)) (pe_call KM.ok hr rfl KM.m KM.k KM.b .nil pass0 (pa_cons (pe_dget hu1 (pv 0) (pv 2) (fun _ _ => rfl)) (pa_cons (pv 3) pa_nil))) (nomark _)))))), ?_⟩
  have z3 : ∀ {k : Nat}, k ≤ 2000 → k ≤ sizeLine := fun h => Nat.le_trans h (by decide)
  have lx := tx.2
  refine ⟨_, rfl, x, rfl, z3 (by omega), tx.1, fun H1 s1 => ⟨_, rfl, ?_⟩⟩
  unfold ruB at q
  cases hw : wrB x with
  | true =>
    rw [hw, Bool.true_or] at q
    exact iteT (q H1 s1)
  | false =>
    rw [hw, Bool.false_or] at q
    refine iteF ⟨_, rfl, x, rfl, txt_up tx (by omega), fun p u H2 s2 hp D => ?_⟩
    obtain ⟨ts, tl⟩ := stem_ok tx
    have hk : hoOk (hoOf (lastOf x)) := hoOf_ok tl
    have tb2 := tb.on (s1.trans s2)
    refine ⟨p, _, rfl, SqT.of hp, rfl, _, _, rfl, _, _, rfl, rfl, ?_⟩
    rcases tb2.get (stemOf x) with ⟨g, l⟩ | ⟨v, k, g, l, Dk⟩
    · rw [l] at q
      refine ⟨_, rfl, _, rfl, t, _, rfl, g, _, rfl, ?_⟩
      exact iteT (iteT (q H2 (s1.trans s2)))
    · rw [l] at q
      obtain ⟨pk, pt, pd⟩ : kdB m k = true ∧ txtB k = true ∧ k.depth ≤ m := by
        obtain ⟨pr, pm, _, e⟩ := look_mem l
        rw [← e]
        exact bo pr pm
      obtain ⟨dk, dt, ddp⟩ : kdB m d = true ∧ txtB d = true ∧ d.depth ≤ m := by
        obtain ⟨pr, pm, _, e⟩ := look_mem hl
        rw [← e]
        exact bo pr pm
      have q' : ∀ H', Same H H' → Q (.bl (khB m bk (hoD (hoOf (lastOf x))) && PyData.eqv d (kmd 30 k (hoOf (lastOf x))))) H' := q
      clear q
      refine ⟨_, rfl, _, rfl, t, _, rfl, g, _, rfl, ?_⟩
      refine iteF ⟨_, rfl, _, rfl, t, u, _, bk, rfl, tb2, D, hoD_txt hk, Nat.le_trans (hoD_d1 _) h1, fun H3 s3 => ⟨_, rfl, ?_⟩⟩
      cases hh : khB m bk (hoD (hoOf (lastOf x))) with
      | false =>
        rw [hh, Bool.false_and] at q'
        exact iteT (q' H3 (s1.trans (s2.trans s3)))
      | true =>
        rw [hh, Bool.true_and] at q'
        have tb3 := tb2.on s3
        obtain ⟨g1, l1⟩ | ⟨v1, d1, g1, l1, D1⟩ := tb3.get x
        · rw [hl] at l1; cases l1
        obtain ⟨g2, l2⟩ | ⟨v2, d2, g2, l2, D2⟩ := tb3.get (stemOf x)
        · rw [l] at l2; cases l2
        rw [hl] at l1
        rw [l] at l2
        cases l1
        cases l2
        obtain ⟨f1, z1⟩ := kd_down dk
        obtain ⟨f2, z2⟩ := kd_down pk
        refine iteF ⟨_, rfl, _, rfl, t, v1, rfl, g1, _, rfl, _, rfl, t, v2, rfl, g2, _, rfl, ?_⟩
        refine ⟨v2, u, k, _, rfl, D2, f2, pt, by omega, Dq.mono s3 _ _ D, hk, fun v3 H4 s4 D3 => ?_⟩
        have st := kmd_st 30 k (hoOf (lastOf x)) f2 pt hk
        have dp := kmd_depth 30 k (hoOf (lastOf x)) f2
        have sd := fB_st 30 d f1 dt
        exact ⟨d, _, Dq.dp _ _ sd (Dq.mono s4 _ _ D1), Dq.dp _ _ st D3, shp sd (by omega), shp st (by omega), q' H4 (s1.trans (s2.trans (s3.trans s4)))⟩
end
end Toy
set_option Elab.async false
set_option linter.all false
set_option maxRecDepth 100000
set_option maxHeartbeats 2000000
namespace Toy
open PySem L2 PyProof.Rows
abbrev sPairAb : Stmt := top 34
abbrev sChkP : Stmt := top 33
/-! ### the pairs of a book -/
def lessS (a b : Str) : Bool := decide (a.cps.toList < b.cps.toList)
def rowN : PyData → Str
  | .tuple [x, _] => nmX x
  | _ => ""
def rowK : PyData → PyData
  | .tuple [_, k] => k
  | _ => .none
/-- a pair of a name above p and a kind -/
def pairB (m : Nat) (p : Str) : PyData → Bool
  | .tuple [x, k] => nmB x && (lessS p (nmX x) && kdB m k)
  | _ => false
def upB (m : Nat) : Str → List PyData → Bool
  | _, [] => true
  | p, r :: rs => pairB m p r && upB m (rowN r) rs
theorem nmB_str {d : PyData} (h : nmB d = true) : ∃ x, d = .str x := by
  cases d with
  | str x => exact ⟨x, rfl⟩
  | _ => cases h
theorem ne_two {n : Nat} (h : (!decide (V.int (n : Int) = V.int 2)) = true) : n ≠ 2 := by
  intro e
  subst e
  exact absurd h (by decide)
theorem eq_two {n : Nat} (h : ¬ (!decide (V.int (n : Int) = V.int 2)) = true) : n = 2 := by
  by_cases z : V.int (n : Int) = V.int 2
  · injection z with z
    omega
  · exact absurd (by rw [decide_eq_false z]; rfl) h
def spPa (K : PySem.W.Frag) (m : Nat) : Sp := fun vs H Q _ => ∃ (p : Str) (v : V) (d : PyData), vs = [.str p, v] ∧ Dq K H v d ∧ txtB d = true ∧ d.depth ≤ m ∧ ∀ H', Same H H' → Q (.bl (pairB m p d)) H'
section
variable {P : Program} {w : World} {K : PySem.W.Frag} {mg : Str → Option Value} {base : Heap} {m : Nat}
theorem scPa : FnScope ["ahead", "row"] ["ahead", "row"] (defScope sPairAb) := ⟨rfl, rfl, rfl, by decide +kernel, rfl, by decide +kernel, by decide +kernel⟩
theorem ok_pairab {f gN gK : Addr} {fd dN dK : FuncData} (F : Fun K "is_pair_above" "is_pair_above" sPairAb f fd) (T : Nk mg) (U : Nt mg) (N : Nu mg) (NM : Gv P w K mg base 2 "is_name" gN dN ["value"] (spNm K)) (IK : Gv P w K mg base 5 "is_kind" gK dK ["value"] (spIk K m)) : FnOk P w K mg base CX0 6 f fd ["ahead", "row"] (spPa K m) := by
  refine F.ok scPa (fun vs H Q E h => ?_) (fun cdv A outer s H vs Q E hr h => ?_)
  · obtain ⟨p, v, d, rfl, _⟩ := h
    rfl
  obtain ⟨p, v, d, rfl, hd, ht, hdp, q⟩ := h
  have hr2 : Room 2 (A.deeper _) := hr.mono (by omega)
  refine ⟨_, pss_cons (ps_if (PW.pt (pw_or (pt_cmpR op_neTy (pe_callTy call_tyD rfl U.type (by decide +kernel) (pa_cons (pv 1) pa_nil)) (pe_bltn (v := .ty "tuple") rfl N.tuple (by decide +kernel) rfl (by decide) (by decide)) (nomark _))
      (pw_or1 (pt_cmpR op_ne (pe_callB call_len_seq rfl T.len PySem.boot_len (pa_cons (pv 1) pa_nil)) pe_int (nomark _))))) (pss_one (ps_ret pe_bl)) pss_nil)
    (pss_one (ps_ret (pe_and (pe_call NM.ok hr2 rfl NM.m NM.k NM.b .nil pass0 (pa_cons (pe_ix ix_tup (pv 1) pe_int (fun _ _ => rfl)) pa_nil)) (pe_and (pe_cmpR op_gt_str (pe_ix ix_tup (pv 1) pe_int (fun _ _ => rfl)) (pv 0) (nomark _)) (pe_one (pe_call IK.ok hr rfl IK.m IK.k IK.b .nil pass0 (pa_cons (pe_ix ix_tup (pv 1) pe_int (fun _ _ => rfl)) pa_nil))))))), ?_⟩
  refine ⟨_, rfl, _, d, rfl, hd, d, "tuple", rfl, rfl, TypeEq.meta_tuple, _, rfl, ?_⟩
  have no : pairB m p d = false → Q (.bl false) H := fun e => by
    have z := q H (Same.refl H)
    rw [e] at z
    exact z
  refine ite2 (fun h => ?_) (fun h => ?_)
  · refine no ?_
    cases d with
    | tuple ds => exact absurd rfl (notT h)
    | _ => rfl
  obtain ⟨ds, rfl⟩ := tup_of (isT h)
  obtain ⟨a, xs, rfl, hx, hA⟩ := dq_tuple hd
  have hl : xs.length = ds.length := hA.len
  refine ⟨_, rfl, a, _, rfl, .inr hx, rfl, _, rfl, ?_⟩
  refine ite2 (fun g => ?_) (fun g => ?_)
  · refine no ?_
    have g' := ne_two g
    rw [hl] at g'
    rcases ds with _ | ⟨d1, _ | ⟨d2, _ | ⟨d3, r⟩⟩⟩
    · rfl
    · rfl
    · exact absurd rfl g'
    · rfl
  obtain ⟨d1, d2, rfl⟩ : ∃ d1 d2, ds = [d1, d2] := by
    have g' := eq_two g
    rw [hl] at g'
    rcases ds with _ | ⟨d1, _ | ⟨d2, _ | ⟨d3, r⟩⟩⟩
    · cases g'
    · cases g'
    · exact ⟨d1, d2, rfl⟩
    · simp only [List.length_cons] at g'
      omega
  obtain ⟨x1, rs, rfl, g1, hA⟩ := dqAll_cons hA
  obtain ⟨x2, rs, rfl, g2, hA⟩ := dqAll_cons hA
  have tt : (txtB d1 && (txtB d2 && true)) = true := ht
  simp only [Bool.and_eq_true] at tt
  have dd : d2.depth ≤ m := by
    simp only [PyData.depth, PyData.depthAll] at hdp
    omega
  refine ⟨_, rfl, a, _, 0, _, rfl, rfl, hx, atI_nat (j := 0) rfl, x1, d1, rfl, g1, tt.1, fun H1 s1 => ⟨_, rfl, ?_⟩⟩
  have e : pairB m p (.tuple [d1, d2]) = (nmB d1 && (lessS p (nmX d1) && kdB m d2)) := rfl
  rw [e] at q
  cases hn : nmB d1 with
  | false =>
    rw [hn, Bool.false_and] at q
    exact iteF (q H1 s1)
  | true =>
    rw [hn, Bool.true_and] at q
    obtain ⟨x, rfl⟩ := nmB_str hn
    cases g1
    refine iteT ⟨_, rfl, a, _, 0, _, rfl, rfl, s1.seqT hx, atI_nat (j := 0) rfl, _, rfl, x, p, rfl, rfl, _, rfl, ?_⟩
    show if lessS p x = true then _ else _
    have q' : ∀ H', Same H H' → Q (.bl (lessS p x && kdB m d2)) H' := q
    cases hls : lessS p x with
    | false =>
      rw [hls, Bool.false_and] at q'
      exact iteF (q' H1 s1)
    | true =>
      rw [hls, Bool.true_and] at q'
      exact iteT ⟨_, rfl, a, _, 1, _, rfl, rfl, s1.seqT hx, atI_nat (j := 1) rfl, x2, d2, rfl, Dq.mono s1 _ _ g2, tt.2.1, dd, fun H2 s2 => q' H2 (s1.trans s2)⟩
end
end Toy
set_option Elab.async false
set_option linter.all false
set_option maxRecDepth 100000
set_option maxHeartbeats 2000000
namespace L2
open PySem PySem.Spec PyProof.Rows
theorem walk_enumT {K : PySem.W.Frag} {a : Addr} {xs : List V} : Walk (IteT K a) xs.length (fun H => SqT K H a xs) (YPair (fun i => some (.int (i : Nat))) (fun i => xs[i]?)) := by
  refine ⟨fun i _ hi q => ⟨xs, xs[i], q, by simp [hi]⟩, fun _ q => ⟨xs, q, Nat.le_refl _⟩, fun i H v H' _ q y => ?_⟩
  obtain ⟨T, x, h1, h2, h3, h4⟩ := y
  exact ⟨T, .int (i : Nat), x, h1, h2, h3, rfl, h4 xs q⟩
end L2
namespace Toy
open PySem L2 PyProof.Rows
/-- the class InvalidBook at C -/
structure Eb (P : Program) (w : World) (K : PySem.W.Frag) (mg : Str → Option Value) (base : Heap) (C : Addr) : Prop where
  mkr : Mkr P w K mg base C 1 [] (fun vs => match vs with | [x] => [("index", x)] | _ => [])
  b : PySem.W.subIn K (.ref C) (.type "BaseException") = some true
  t : PySem.W.typeIn K (.ref C) = some (.type "type")
  m : mg "InvalidBook" = some (.ref C)
  k : PySem.W.keepIn K (.ref C) = true
  x : PySem.W.exmOne K (.ref C) (.ref C) = some true
structure Nv (mg : Str → Option Value) : Prop where
  most : ∃ t, mg "MOST_NAMES" = some (.int 80 t)
  enum : mg "enumerate" = none
  dict : mg "dict" = none
def cpB (m : Nat) : PyData → Bool
  | .tuple ds => decide (ds.length ≤ 80) && upB m "" ds
  | _ => false
def spCp (K : PySem.W.Frag) (m : Nat) (C : Addr) : Sp := fun vs H Q E => ∃ (v : V) (d : PyData), vs = [v] ∧ Dq K H v d ∧ txtB d = true ∧ d.depth ≤ m ∧ (cpB m d = true → ∀ H', Same H H' → Q .non H') ∧
  (cpB m d = false → ∀ H' dd, Same H H' → E (.ref C) (some dd) H')
theorem dA_mem' {d : PyData} : ∀ {l : List PyData}, d ∈ l → d.depth ≤ PyData.depthAll l
  | x :: r, h => by
    rw [show PyData.depthAll (x :: r) = max x.depth (PyData.depthAll r) from rfl]
    rcases List.mem_cons.mp h with rfl | h
    · exact Nat.le_max_left _ _
    · exact Nat.le_trans (dA_mem' h) (Nat.le_max_right _ _)
theorem txt_mem {d : PyData} : ∀ {l : List PyData}, txtAll l = true → d ∈ l → txtB d = true
  | x :: r, t, h => by
    have t' : (txtB x && txtAll r) = true := t
    rw [Bool.and_eq_true] at t'
    rcases List.mem_cons.mp h with rfl | h
    · exact t'.1
    · exact txt_mem t'.2 h
section
variable {P : Program} {w : World} {K : PySem.W.Frag} {mg : Str → Option Value} {base : Heap} {m : Nat} {C : Addr}
theorem scCp : FnScope ["book", "ahead", "at", "row"] ["book"] (defScope sChkP) := ⟨rfl, rfl, rfl, by decide +kernel, rfl, by decide +kernel, by decide +kernel⟩
theorem ok_check {f gP : Addr} {fd dP : FuncData} (F : Fun K "check_pairs" "check_pairs" sChkP f fd) (T : Nk mg) (U : Nt mg) (N : Nu mg) (V' : Nv mg) (B : Eb P w K mg base C) (PA' : Gv P w K mg base 6 "is_pair_above" gP dP ["ahead", "row"] (spPa K m)) : FnOk P w K mg base (L2.CX P w) 7 f fd ["book"] (spCp K m C) := by
  refine F.okX scCp (fun vs H Q E h => ?_) (fun cdv A outer s H vs Q E hr h => ?_)
  · obtain ⟨v, d, rfl, _⟩ := h
    rfl
  obtain ⟨v, d, rfl, hd, ht, hdp, q, qx⟩ := h
  obtain ⟨t8, h8⟩ := V'.most
  refine ⟨_, pss_cons (ps_if (PW.pt (pw_or (pt_cmpR op_neTy (pe_callTy call_tyD rfl U.type (by decide +kernel) (pa_cons (pv 0) pa_nil)) (pe_bltn (v := .ty "tuple") rfl N.tuple (by decide +kernel) rfl (by decide) (by decide)) (nomark _))
      (pw_or1 (pt_cmpR op_gt (pe_callB call_len_seq rfl T.len PySem.boot_len (pa_cons (pv 0) pa_nil)) (pe_glob (v := .int 80) rfl h8 ⟨_, rfl⟩) (nomark _)))))
      (pss_one (ps_raise rfl (takes_of rfl rfl rfl rfl) (pmk_mkr B.mkr (raises_own B.b B.t) hr rfl B.m B.k (pa_cons pe_non pa_nil)))) pss_nil)
    (pss_cons (ps_set (i := 1) scCp.nd rfl (.inl rfl) pe_str)
    (pss_one (ps_for (passes_of rfl) rfl (pi_enumT (by rfl) V'.enum (pa_cons (pv 0) pa_nil)) (pg_tup rfl (pgs_cons (pg_name (i := 2) scCp.nd rfl (.inl rfl)) (pgs_cons (pg_name (i := 3) scCp.nd rfl (.inl rfl)) pgs_nil)))
      (pss_cons (ps_if (pt_not (pt_val (pe_call PA'.ok hr rfl PA'.m PA'.k PA'.b .nil pass0 (pa_cons (pv 1) (pa_cons (pv 3) pa_nil))))) (pss_one (ps_raise rfl (takes_of rfl rfl rfl rfl) (pmk_mkr B.mkr (raises_own B.b B.t) hr rfl B.m B.k (pa_cons (pv 2) pa_nil)))) pss_nil)
      (pss_one (ps_set (i := 1) scCp.nd rfl (.inl rfl) (pe_ix ix_tup (pv 3) pe_int (fun _ _ => rfl)))))))), ?_⟩
  refine ⟨_, rfl, _, d, rfl, hd, d, "tuple", rfl, rfl, TypeEq.meta_tuple, _, rfl, ?_⟩
  refine ite2 (fun h => ?_) (fun h => ?_)
  · have e : cpB m d = false := by
      cases d with
      | tuple ds => exact absurd rfl (notT h)
      | _ => rfl
    exact ⟨rfl, rfl, fun dd hdd => qx e _ dd (same_new hdd _)⟩
  obtain ⟨ds, rfl⟩ := tup_of (isT h)
  obtain ⟨a, xs, rfl, hx, hA⟩ := dq_tuple hd
  have hl : xs.length = ds.length := hA.len
  refine ⟨_, rfl, a, _, rfl, .inr hx, _, _, rfl, rfl, _, rfl, ?_⟩
  refine ite2 (fun g => ?_) (fun g => ?_)
  · have g' : (xs.length : Int) > 80 := of_decide_eq_true g
    have e : cpB m (.tuple ds) = false := by
      show (decide (ds.length ≤ 80) && upB m "" ds) = false
      rw [decide_eq_false (by omega)]
      rfl
    exact ⟨rfl, rfl, fun dd hdd => qx e _ dd (same_new hdd _)⟩
  have g' : ¬ (xs.length : Int) > 80 := of_decide_eq_false (Bool.eq_false_iff.mpr g)
  have ec : cpB m (.tuple ds) = upB m "" ds := by
    show (decide (ds.length ≤ 80) && upB m "" ds) = _
    rw [decide_eq_true (by omega)]
    rfl
  rw [ec] at q qx
  have dm : ∀ r ∈ ds, r.depth ≤ m := fun r mr => by
    have := dA_mem' mr
    have hd' : PyData.depthAll ds + 1 ≤ m := hdp
    omega
  have tm : ∀ r ∈ ds, txtB r = true := fun r mr => txt_mem (show txtAll ds = true from ht) mr
  refine ⟨_, rfl, a, xs, rfl, hx, ?_⟩
  refine for_it (walk_enumT (xs := xs)) (fun i σ H' => ∃ p c2 c3, σ = [some (.ref a), some (.str p), c2, c3] ∧ Same H H' ∧ upB m p (ds.drop i) = upB m "" ds) ⟨"", none, none, rfl, Same.refl H, rfl⟩ (fun i σ H' _ ⟨p, c2, c3, _, z, _⟩ => z.seqT hx) ?_ ?_
  · rintro i y σ H1 H2 hi ⟨p, c2, c3, rfl, s1, hu⟩ ⟨Tt, yi, r, rfl, hT, rfl, hyi, hy⟩
    cases hyi
    obtain ⟨e, he, hde⟩ := dqAll_at _ _ _ hA hy
    have me := List.mem_of_getElem? he
    have s2 := same_new hT (.tup [.int (i : Nat), r])
    have hTT : upd H1 Tt (.tup [.int (i : Nat), r]) Tt = some (.tup [.int (i : Nat), r]) := upd_same
    have s12 := s1.trans s2
    have hdr : ds.drop i = e :: ds.drop (i + 1) := by
      obtain ⟨hlt, hget⟩ := List.getElem?_eq_some_iff.mp he
      rw [List.drop_eq_getElem_cons hlt, hget]
    rw [hdr] at hu
    have hu' : (pairB m p e && upB m (rowN e) (ds.drop (i + 1))) = upB m "" ds := hu
    refine ⟨Tt, _, rfl, SqT.of hTT, rfl, _, _, rfl, _, _, rfl, rfl, ?_⟩
    refine ⟨_, rfl, _, rfl, p, r, e, rfl, Dq.mono s12 _ _ hde, tm e me, dm e me, fun H3 s3 => ⟨_, rfl, ?_⟩⟩
    cases hp : pairB m p e with
    | false =>
      rw [hp, Bool.false_and] at hu'
      exact iteT ⟨_, rfl, rfl, rfl, fun dd hdd => qx hu'.symm _ dd ((s12.trans s3).trans (same_new hdd _))⟩
    | true =>
      rw [hp, Bool.true_and] at hu'
      obtain ⟨y, k, rfl⟩ : ∃ y k, e = .tuple [.str y, k] := by
        unfold pairB at hp
        split at hp
        · rename_i x k
          rw [Bool.and_eq_true] at hp
          obtain ⟨z, rfl⟩ := nmB_str hp.1
          exact ⟨z, k, rfl⟩
        · cases hp
      obtain ⟨ad, zs, rfl, hz, hB⟩ := dq_tuple hde
      obtain ⟨x0, rs, rfl, g0, hB⟩ := dqAll_cons hB
      cases g0
      refine iteF ⟨_, rfl, ad, _, 0, _, rfl, rfl, (s12.trans s3).seqT hz, atI_nat (j := 0) rfl, ?_⟩
      exact ⟨y, _, _, rfl, s12.trans s3, hu'⟩
  · rintro σ H1 ⟨p, c2, c3, rfl, s1, hu⟩
    rw [hl, List.drop_length] at hu
    exact q hu.symm H1 s1
end
end Toy
set_option Elab.async false
set_option linter.all false
set_option maxRecDepth 100000
set_option maxHeartbeats 4000000
namespace Toy
open PySem L2 PyProof.Rows
abbrev sTable : Stmt := top 32
/-! ### a book as its pairs -/
def bkOf : PyData → List (Str × PyData)
  | .tuple ds => ds.map fun r => (rowN r, rowK r)
  | _ => []
def tbB (m : Nat) (d : PyData) : Bool := cpB m d && ((bkOf d).all (fun p => knB m (bkOf d) p.2) && (bkOf d).all fun p => ruB m (bkOf d) p.1 p.2)
theorem less_trans {a b c : Str} (h : lessS a b = true) (h2 : lessS b c = true) : lessS a c = true :=
  decide_eq_true (List.lt_trans (of_decide_eq_true h) (of_decide_eq_true h2))
theorem less_ne {a b : Str} (h : lessS a b = true) : a ≠ b := fun e => by
  subst e
  exact List.lt_irrefl _ (of_decide_eq_true h)
theorem pair_form {m : Nat} {p : Str} {e : PyData} (hp : pairB m p e = true) : ∃ y k, e = .tuple [.str y, k] ∧ nmB (.str y) = true ∧ lessS p y = true ∧ kdB m k = true := by
  unfold pairB at hp
  split at hp
  · rename_i x k
    rw [Bool.and_eq_true, Bool.and_eq_true] at hp
    obtain ⟨z, rfl⟩ := nmB_str hp.1
    exact ⟨z, k, rfl, hp.1, hp.2.1, hp.2.2⟩
  · cases hp
theorem up_rows {m : Nat} : ∀ {ds : List PyData} {p : Str}, upB m p ds = true → (∀ r ∈ ds, ∃ y k, r = .tuple [.str y, k] ∧ nmB (.str y) = true ∧ kdB m k = true ∧ lessS p y = true) ∧ ds.Pairwise fun r s => lessS (rowN r) (rowN s) = true
  | [], _, _ => ⟨fun _ h => (nomatch h), .nil⟩
  | e :: ds, p, h => by
    have h' : (pairB m p e && upB m (rowN e) ds) = true := h
    rw [Bool.and_eq_true] at h'
    obtain ⟨y, k, rfl, h1, h2, h3⟩ := pair_form h'.1
    obtain ⟨i1, i2⟩ := up_rows h'.2
    have hn : rowN (.tuple [.str y, k]) = y := rfl
    rw [hn] at i1
    refine ⟨fun r mr => ?_, .cons (fun r mr => ?_) i2⟩
    · rcases List.mem_cons.mp mr with rfl | mr
      · exact ⟨y, k, rfl, h1, h3, h2⟩
      · obtain ⟨y', k', e', a, b, c⟩ := i1 r mr
        exact ⟨y', k', e', a, b, less_trans h2 c⟩
    · obtain ⟨y', k', rfl, a, b, c⟩ := i1 r mr
      exact c
def Dist (bk : List (Str × PyData)) : Prop := bk.Pairwise fun p q => p.1 ≠ q.1
theorem look_of : ∀ {bk : List (Str × PyData)} {p : Str × PyData}, Dist bk → p ∈ bk → lookB bk p.1 = some p.2
  | q :: bk, p, h, mp => by
    unfold lookB
    rw [List.find?_cons]
    rcases List.mem_cons.mp mp with rfl | mp
    · rw [decide_eq_true rfl]
      rfl
    · have hne : q.1 ≠ p.1 := (List.pairwise_cons.mp h).1 p mp
      rw [decide_eq_false hne]
      exact look_of (List.pairwise_cons.mp h).2 mp
theorem rows_kvs {K : PySem.W.Frag} {H : Hp} : ∀ {xs : List V} {ds : List PyData}, DqAll K H xs ds → (∀ r ∈ ds, ∃ y k, r = .tuple [.str y, k]) →
    ∃ (ps : List Addr) (kvs : List (Key × V)), xs = ps.map V.ref ∧ Paired (fun p kv => SqT K H p [kV kv.1, kv.2]) ps kvs ∧ Paired (TabR K H) kvs (ds.map fun r => (rowN r, rowK r))
  | [], [], .nil, _ => ⟨[], [], rfl, .nil, .nil⟩
  | v :: vs, d :: ds, .cons r t, h => by
    obtain ⟨y, k, rfl⟩ := h d List.mem_cons_self
    obtain ⟨ps, kvs, rfl, h1, h2⟩ := rows_kvs t fun r mr => h r (List.mem_cons_of_mem _ mr)
    obtain ⟨ad, zs, rfl, hz, hB⟩ := dq_tuple r
    obtain ⟨x0, rs, rfl, g0, hB⟩ := dqAll_cons hB
    obtain ⟨x1, rs, rfl, g1, hB⟩ := dqAll_cons hB
    obtain rfl := dqAll_nil hB
    cases g0
    exact ⟨ad :: ps, (.inr y, x1) :: kvs, rfl, .cons hz h1, .cons ⟨rfl, g1⟩ h2⟩
theorem val_none {kvs : List (Key × V)} {k : Key} (h : ∀ kv ∈ kvs, kv.1 ≠ k) : valV kvs k = none := by
  unfold valV
  have e : (kvs.find? fun kv => decide (kv.1 = k)) = none := List.find?_eq_none.mpr fun kv m => by
    rw [decide_eq_false (h kv m)]
    exact Bool.false_ne_true
  rw [e]
  rfl
theorem merge_dist : ∀ {more kvs : List (Key × V)}, (kvs ++ more).Pairwise (fun a b => a.1 ≠ b.1) → mergeK kvs more = kvs ++ more
  | [], kvs, _ => (List.append_nil kvs).symm
  | p :: more, kvs, h => by
    have hn : valV kvs p.1 = none := val_none fun kv m => by
      have := (List.pairwise_append.mp h).2.2 kv m p List.mem_cons_self
      exact this
    show mergeK (putK kvs p.1 p.2) more = _
    rw [putK_new p.2 hn]
    have e : (kvs ++ [(p.1, p.2)]) ++ more = kvs ++ p :: more := by rw [List.append_assoc]; rfl
    rw [merge_dist (by rw [e]; exact h), e]
theorem tabR_mem {K : PySem.W.Frag} {H : Hp} : ∀ {kvs : List (Key × V)} {bk : List (Str × PyData)} {kv : Key × V}, Paired (TabR K H) kvs bk → kv ∈ kvs → ∃ q : Str × PyData, q ∈ bk ∧ kv.1 = Sum.inr q.1
  | _, _, kv, .cons (a := kv0) (b := p) r t, m => by
    rcases List.mem_cons.mp m with rfl | m
    · exact ⟨p, List.mem_cons_self, r.1⟩
    · obtain ⟨q, a, b⟩ := tabR_mem t m
      exact ⟨q, List.mem_cons_of_mem _ a, b⟩
theorem tabR_dist {K : PySem.W.Frag} {H : Hp} : ∀ {kvs : List (Key × V)} {bk : List (Str × PyData)}, Paired (TabR K H) kvs bk → Dist bk → kvs.Pairwise (fun a b => a.1 ≠ b.1)
  | _, _, .nil, _ => .nil
  | _, _, .cons (a := kv) (b := p) r t, h => by
    refine .cons (fun kv' m => ?_) (tabR_dist t (List.pairwise_cons.mp h).2)
    obtain ⟨q, mq, e⟩ := tabR_mem t m
    rw [r.1, e]
    intro z
    injection z with z
    exact (List.pairwise_cons.mp h).1 q mq z
/-- what passes the first look is a row of pairs with names all unlike -/
theorem bk_facts {m : Nat} {ds : List PyData} (h : cpB m (.tuple ds) = true) (ht : txtB (.tuple ds) = true) (hd : (PyData.tuple ds).depth ≤ m) : (∀ r ∈ ds, ∃ y k, r = .tuple [.str y, k]) ∧ Dist (bkOf (.tuple ds)) ∧ BkOk m (bkOf (.tuple ds)) ∧ (∀ p ∈ bkOf (.tuple ds), txtOk p.1 60) ∧ ds.length ≤ 80 := by
  have h' : (decide (ds.length ≤ 80) && upB m "" ds) = true := h
  rw [Bool.and_eq_true, decide_eq_true_eq] at h'
  obtain ⟨h1, h2⟩ := up_rows h'.2
  have tm : ∀ r ∈ ds, txtB r = true := fun r mr => txt_mem (show txtAll ds = true from ht) mr
  have dm : ∀ r ∈ ds, r.depth + 1 ≤ m := fun r mr => by
    have := dA_mem' mr
    have hd' : PyData.depthAll ds + 1 ≤ m := hd
    omega
  refine ⟨fun r mr => let ⟨y, k, e, _⟩ := h1 r mr; ⟨y, k, e⟩, ?_, fun p mp => ?_, fun p mp => ?_, h'.1⟩
  · unfold Dist bkOf
    rw [List.pairwise_map]
    exact h2.imp fun z => less_ne z
  · obtain ⟨r, mr, rfl⟩ := List.mem_map.mp mp
    obtain ⟨y, k, rfl, _, hk, _⟩ := h1 r mr
    have tt : (txtB (.str y) && (txtB k && true)) = true := tm _ mr
    simp only [Bool.and_eq_true] at tt
    have dd := dm _ mr
    simp only [PyData.depth, PyData.depthAll] at dd
    exact ⟨hk, tt.2.1, by show k.depth ≤ m; omega⟩
  · obtain ⟨r, mr, rfl⟩ := List.mem_map.mp mp
    obtain ⟨y, k, rfl, hy, _⟩ := h1 r mr
    have tt : (txtB (.str y) && (txtB k && true)) = true := tm _ mr
    simp only [Bool.and_eq_true] at tt
    have ty : (PyData.strOk y && decide (y.length ≤ 2000)) = true := tt.1
    rw [Bool.and_eq_true] at ty
    have hy' : (decide (y.length ≤ 60) && namL (Txt.split y quo)) = true := hy
    rw [Bool.and_eq_true, decide_eq_true_eq] at hy'
    exact ⟨ty.1, hy'.1⟩
/-- the thing is a tuple, then a plain one -/
def TopP (K : PySem.W.Frag) (H : Hp) (v : V) (d : PyData) : Prop := ∀ ds, d = .tuple ds → ∃ a xs, v = .ref a ∧ SqP K H a xs ∧ DqAll K H xs ds
structure GvX (P : Program) (w : World) (K : PySem.W.Frag) (mg : Str → Option Value) (base : Heap) (k : Nat) (x : Str) (f : Addr) (fd : FuncData) (ps : List Str) (sp : Sp) : Prop where
  ok : FnOk P w K mg base (L2.CX P w) k f fd ps sp
  b : Binds K fd ps []
  k : PySem.W.keepIn K (.ref f) = true
  m : mg x = some (.ref f)
def spTo (K : PySem.W.Frag) (m : Nat) (C : Addr) : Sp := fun vs H Q E => ∃ (v : V) (d : PyData), vs = [v] ∧ Dq K H v d ∧ TopP K H v d ∧ txtB d = true ∧ d.depth ≤ m ∧ (tbB m d = true → ∀ t H', Same H H' → Tab K H' t (bkOf d) → Q (.ref t) H') ∧
  (tbB m d = false → ∀ H' dd, Same H H' → E (.ref C) (some dd) H')
theorem TopP.on {K : PySem.W.Frag} {H H' : Hp} {v : V} {d : PyData} (e : Same H H') (h : TopP K H v d) : TopP K H' v d := fun ds ed => by
  obtain ⟨a, xs, ev, hp, hA⟩ := h ds ed
  exact ⟨a, xs, ev, e.seqP hp, DqAll.mono e _ _ hA⟩
theorem all_drop {α : Type} {f : α → Bool} {l : List α} {i : Nat} {x : α} (h : l[i]? = some x) : (l.drop i).all f = (f x && (l.drop (i + 1)).all f) := by
  obtain ⟨hlt, hget⟩ := List.getElem?_eq_some_iff.mp h
  rw [List.drop_eq_getElem_cons hlt, hget, List.all_cons]
section
variable {P : Program} {w : World} {K : PySem.W.Frag} {mg : Str → Option Value} {base : Heap} {m : Nat} {C : Addr}
theorem scTo : FnScope ["book", "table", "at", "name", "kind"] ["book"] (defScope sTable) := ⟨rfl, rfl, rfl, by decide +kernel, rfl, by decide +kernel, by decide +kernel⟩
theorem ok_table {f gC gK gR : Addr} {fd dC dK dR : FuncData} (F : Fun K "table_of" "table_of" sTable f fd) (V' : Nv mg) (B : Eb P w K mg base C) (CP : GvX P w K mg base 7 "check_pairs" gC dC ["book"] (spCp K m C))
    (KN : Gv P w K mg base 5 "is_known" gK dK ["table", "value"] (spKn K m)) (RU : Gv P w K mg base 63 "is_made_by_rules" gR dR ["table", "name"] (spRu K m)) : FnOk P w K mg base (L2.CX P w) 64 f fd ["book"] (spTo K m C) := by
  refine F.okX scTo (fun vs H Q E h => ?_) (fun cdv A outer s H vs Q E hr h => ?_)
  · obtain ⟨v, d, rfl, _⟩ := h
    rfl
  obtain ⟨v, d, rfl, hd, tp, ht, hdp, q, qx⟩ := h
  have hr5 : Room 5 (A.deeper _) := hr.mono (by omega)
  have hr7 : Room 7 (A.deeper _) := hr.mono (by omega)
  refine ⟨_, pss_cons (ps_expr (pe_callS CP.ok hr7 rfl CP.m CP.k CP.b (fun σ => passAt (takes_of rfl rfl rfl rfl) σ) (pa_cons (pv 0) pa_nil)))
    (pss_cons (ps_set (i := 1) scTo.nd rfl (.inl rfl) (pe_callTy (call_dictT rfl) rfl V'.dict (by decide +kernel) (pa_cons (pv 0) pa_nil)))
    (pss_cons (ps_for (passes_of rfl) rfl (pi_enumT (by rfl) V'.enum (pa_cons (pv 0) pa_nil)) (pg_tup rfl (pgs_cons (pg_name (i := 2) scTo.nd rfl (.inl rfl)) (pgs_cons (pg_tup rfl (pgs_cons (pg_name (i := 3) scTo.nd rfl (.inl rfl)) (pgs_cons (pg_name (i := 4) scTo.nd rfl (.inl rfl)) pgs_nil))) pgs_nil)))
      (pss_one (ps_if (pt_not (pt_val (pe_call KN.ok hr5 rfl KN.m KN.k KN.b .nil pass0 (pa_cons (pv 1) (pa_cons (pv 4) pa_nil))))) (pss_one (ps_raise rfl (takes_of rfl rfl rfl rfl) (pmk_mkr B.mkr (raises_own B.b B.t) hr rfl B.m B.k (pa_cons (pv 2) pa_nil)))) pss_nil)))
    (pss_cons (ps_for (passes_of rfl) rfl (pi_enumT (by rfl) V'.enum (pa_cons (pv 0) pa_nil)) (pg_tup rfl (pgs_cons (pg_name (i := 2) scTo.nd rfl (.inl rfl)) (pgs_cons (pg_tup rfl (pgs_cons (pg_name (i := 3) scTo.nd rfl (.inl rfl)) (pgs_cons (pg_name (i := 4) scTo.nd rfl (.inl rfl)) pgs_nil))) pgs_nil)))
      (pss_one (ps_if (pt_not (pt_val (pe_call RU.ok hr rfl RU.m RU.k RU.b .nil pass0 (pa_cons (pv 1) (pa_cons (pv 3) pa_nil))))) (pss_one (ps_raise rfl (takes_of rfl rfl rfl rfl) (pmk_mkr B.mkr (raises_own B.b B.t) hr rfl B.m B.k (pa_cons (pv 2) pa_nil)))) pss_nil)))
    (pss_one (ps_ret (pv 1)))))), ?_⟩
  refine ⟨_, rfl, v, d, rfl, hd, ht, hdp, fun ec H1 s1 => ?_, fun ec H1 dd s1 => qx (by unfold tbB; rw [ec]; rfl) H1 dd s1⟩
  obtain ⟨ds, rfl⟩ : ∃ ds, d = .tuple ds := by
    cases d with
    | tuple ds => exact ⟨ds, rfl⟩
    | _ => cases ec
  obtain ⟨a, xs, rfl, hxP, hA⟩ := tp ds rfl
  obtain ⟨b1, b2, b3, b4, b5⟩ := bk_facts ec ht hdp
  have eq0 : tbB m (.tuple ds) = ((bkOf (.tuple ds)).all (fun p => knB m (bkOf (.tuple ds)) p.2) && (bkOf (.tuple ds)).all fun p => ruB m (bkOf (.tuple ds)) p.1 p.2) := by
    unfold tbB
    rw [ec, Bool.true_and]
  rw [eq0] at q qx
  obtain ⟨ps, kvs, rfl, hps, hkv⟩ := rows_kvs hA b1
  have ebk : (ds.map fun r => (rowN r, rowK r)) = bkOf (.tuple ds) := rfl
  rw [ebk] at hkv
  have hbl : (bkOf (.tuple ds)).length = ds.length := List.length_map ..
  have hget : ∀ {i : Nat} {e : PyData}, ds[i]? = some e → (bkOf (.tuple ds))[i]? = some (rowN e, rowK e) := fun {i e} he => by
    rw [← ebk, List.getElem?_map, he]
    rfl
  generalize bkOf (.tuple ds) = bk at q qx b2 b3 b4 hkv hbl hget
  refine ⟨_, rfl, a, ps, kvs, rfl, s1.seqP hxP, paired_imp (fun p kv z => s1.seqT z) hps, fun t hT => ?_⟩
  have em : mergeK [] kvs = kvs := merge_dist (kvs := []) (tabR_dist hkv b2)
  rw [em]
  have s2 := same_new hT (.dK kvs)
  have s12 := s1.trans s2
  have tb : Tab K (upd H1 t (.dK kvs)) t bk := ⟨kvs, upd_same, paired_imp (fun kv p z => ⟨z.1, Dq.mono s12 _ _ z.2⟩) hkv⟩
  have hx := hxP.seqT
  have hlx : (ps.map V.ref).length = ds.length := hA.len
  generalize upd H1 t (.dK kvs) = H2 at tb s12
  clear s2 em hT hkv hps
  generalize ps.map V.ref = xs at hx hA hlx
  refine ⟨_, rfl, a, xs, rfl, s12.seqT hx, ?_⟩
  refine for_it (walk_enumT (xs := xs)) (fun i σ H' => ∃ c2 c3 c4, σ = [some (.ref a), some (.ref t), c2, c3, c4] ∧ Same H2 H' ∧ (bk.drop i).all (fun p => knB m bk p.2) = bk.all fun p => knB m bk p.2) ⟨none, none, none, rfl, Same.refl H2, rfl⟩ (fun i σ H' _ ⟨c2, c3, c4, _, z, _⟩ => (s12.trans z).seqT hx) ?_ ?_
  · rintro i y σ H3 H4 hi ⟨c2, c3, c4, rfl, s3, hu⟩ ⟨Tt, yi, r, rfl, hT, rfl, hyi, hy⟩
    cases hyi
    obtain ⟨e, he, hde⟩ := dqAll_at _ _ _ hA hy
    obtain ⟨y, k, rfl⟩ := b1 e (List.mem_of_getElem? he)
    have hb := hget he
    have bok := b3 _ (List.mem_of_getElem? hb)
    have s4 := same_new hT (.tup [.int (i : Nat), r])
    have s24 := s3.trans s4
    have hTT : upd H3 Tt (.tup [.int (i : Nat), r]) Tt = some (.tup [.int (i : Nat), r]) := upd_same
    rw [all_drop hb] at hu
    obtain ⟨ad, zs, rfl, hz, hB⟩ := dq_tuple hde
    obtain ⟨x0, rs, rfl, g0, hB⟩ := dqAll_cons hB
    obtain ⟨x1, rs, rfl, g1, hB⟩ := dqAll_cons hB
    obtain rfl := dqAll_nil hB
    cases g0
    refine ⟨Tt, _, rfl, SqT.of hTT, rfl, _, _, rfl, _, _, rfl, ad, _, rfl, (s12.trans s24).seqT hz, rfl, _, _, rfl, _, _, rfl, rfl, rfl, ?_⟩
    refine ⟨_, rfl, _, rfl, t, x1, k, bk, rfl, tb.on s24, Dq.mono (s12.trans s24) _ _ g1, bok.2.1, bok.2.2, fun H5 s5 => ⟨_, rfl, ?_⟩⟩
    have hu' : (knB m bk k && (bk.drop (i + 1)).all fun p => knB m bk p.2) = bk.all fun p => knB m bk p.2 := hu
    cases hp : knB m bk k with
    | false =>
      rw [hp, Bool.false_and] at hu'
      rw [← hu', Bool.false_and] at qx
      exact iteT ⟨_, rfl, rfl, rfl, fun dd hdd => qx rfl _ dd (((s12.trans s24).trans s5).trans (same_new hdd _))⟩
    | true =>
      rw [hp, Bool.true_and] at hu'
      exact iteF ⟨_, _, _, rfl, s24.trans s5, hu'⟩
  · rintro σ H3 ⟨c2, c3, c4, rfl, s3, hu⟩
    rw [hlx, ← hbl, List.drop_length] at hu
    have hu' : true = bk.all fun p => knB m bk p.2 := hu
    rw [← hu', Bool.true_and] at q qx
    have s13 := s12.trans s3
    have tb3 := tb.on s3
    clear hu hu' s3 s12 tb
    refine ⟨_, rfl, a, xs, rfl, s13.seqT hx, ?_⟩
    refine for_it (walk_enumT (xs := xs)) (fun i σ H' => ∃ c2 c3 c4, σ = [some (.ref a), some (.ref t), c2, c3, c4] ∧ Same H3 H' ∧ (bk.drop i).all (fun p => ruB m bk p.1 p.2) = bk.all fun p => ruB m bk p.1 p.2) ⟨_, _, _, rfl, Same.refl H3, rfl⟩ (fun i σ H' _ ⟨c2, c3, c4, _, z, _⟩ => (s13.trans z).seqT hx) ?_ ?_
    · rintro i y σ H4 H5 hi ⟨c2, c3, c4, rfl, s3, hu⟩ ⟨Tt, yi, r, rfl, hT, rfl, hyi, hy⟩
      cases hyi
      obtain ⟨e, he, hde⟩ := dqAll_at _ _ _ hA hy
      obtain ⟨y, k, rfl⟩ := b1 e (List.mem_of_getElem? he)
      have hb := hget he
      have mb := List.mem_of_getElem? hb
      have lk := look_of b2 mb
      have nk := b4 _ mb
      have s4 := same_new hT (.tup [.int (i : Nat), r])
      have s24 := s3.trans s4
      have hTT : upd H4 Tt (.tup [.int (i : Nat), r]) Tt = some (.tup [.int (i : Nat), r]) := upd_same
      rw [all_drop hb] at hu
      obtain ⟨ad, zs, rfl, hz, hB⟩ := dq_tuple hde
      obtain ⟨x0, rs, rfl, g0, hB⟩ := dqAll_cons hB
      obtain ⟨x1, rs, rfl, g1, hB⟩ := dqAll_cons hB
      obtain rfl := dqAll_nil hB
      cases g0
      refine ⟨Tt, _, rfl, SqT.of hTT, rfl, _, _, rfl, _, _, rfl, ad, _, rfl, (s13.trans s24).seqT hz, rfl, _, _, rfl, _, _, rfl, rfl, rfl, ?_⟩
      refine ⟨_, rfl, _, rfl, t, y, k, bk, rfl, tb3.on s24, b3, nk, lk, fun H6 s6 => ⟨_, rfl, ?_⟩⟩
      have hu' : (ruB m bk y k && (bk.drop (i + 1)).all fun p => ruB m bk p.1 p.2) = bk.all fun p => ruB m bk p.1 p.2 := hu
      cases hp : ruB m bk y k with
      | false =>
        rw [hp, Bool.false_and] at hu'
        exact iteT ⟨_, rfl, rfl, rfl, fun dd hdd => qx hu'.symm _ dd (((s13.trans s24).trans s6).trans (same_new hdd _))⟩
      | true =>
        rw [hp, Bool.true_and] at hu'
        exact iteF ⟨_, _, _, rfl, s24.trans s6, hu'⟩
    · rintro σ H4 ⟨c2, c3, c4, rfl, s3, hu⟩
      rw [hlx, ← hbl, List.drop_length] at hu
      have hu' : true = bk.all fun p => ruB m bk p.1 p.2 := hu
      exact ⟨_, rfl, q hu'.symm t H4 (s13.trans s3) (tb3.on s3)⟩
end
end Toy
set_option Elab.async false
set_option linter.all false
set_option maxRecDepth 100000
set_option maxHeartbeats 2000000
namespace Toy
open PySem L2 PyProof.Rows
def spIb (K : PySem.W.Frag) (m : Nat) : Sp := fun vs H Q _ => ∃ (v : V) (d : PyData), vs = [v] ∧ Dq K H v d ∧ TopP K H v d ∧ txtB d = true ∧ d.depth ≤ m ∧ ∀ H', Same H H' → Q (.bl (tbB m d)) H'
/-- a book that is one -/
def BookAt (K : PySem.W.Frag) (m : Nat) (H : Hp) (v : V) (d : PyData) : Prop := Dq K H v d ∧ TopP K H v d ∧ txtB d = true ∧ d.depth ≤ m ∧ tbB m d = true
def spNd (K : PySem.W.Frag) (m : Nat) : Sp := fun vs H Q _ => ∃ (v : V) (d : PyData) (x : Str), vs = [v, .str x] ∧ BookAt K m H v d ∧ txtB (.str x) = true ∧ nmB (.str x) = true ∧ (lookB (bkOf d) x = none → ∀ H', Same H H' → Q .non H') ∧
  (∀ k, lookB (bkOf d) x = some k → ∀ u H', Same H H' → Dq K H' u k → Q u H')
def spDk (K : PySem.W.Frag) (m : Nat) : Sp := fun vs H Q _ => ∃ (v u : V) (d e : PyData), vs = [v, u] ∧ BookAt K m H v d ∧ Dq K H u e ∧ txtB e = true ∧ e.depth ≤ m ∧ ∀ H', Same H H' → Q (.bl (knB m (bkOf d) e)) H'
def spIh (K : PySem.W.Frag) (m : Nat) : Sp := fun vs H Q _ => ∃ (v u : V) (d e : PyData), vs = [v, u] ∧ BookAt K m H v d ∧ Dq K H u e ∧ txtB e = true ∧ e.depth ≤ m ∧ ∀ H', Same H H' → Q (.bl (khB m (bkOf d) e)) H'
section
variable {P : Program} {w : World} {K : PySem.W.Frag} {mg : Str → Option Value} {base : Heap} {m : Nat} {C : Addr}
end
end Toy
set_option Elab.async false
set_option linter.all false
set_option maxRecDepth 100000
set_option maxHeartbeats 2000000
namespace Toy
open PySem L2
def oddB (d : PyData) : Bool := gdB 0 d && (decide (d.weight ≤ 100) && decide (d.depth ≤ 5))
theorem odds_ok : dOdd.all oddB = true := by decide +kernel
theorem odd_gd {d : PyData} (h : d ∈ dOdd) : Gd d 0 100 5 := by
  have z := List.all_eq_true.mp odds_ok d h
  unfold oddB at z
  simp only [Bool.and_eq_true, decide_eq_true_eq] at z
  exact ⟨z.1, z.2.1, z.2.2⟩
/-- what a drawing tells: data within a greater G -/
def Drawn (K : PySem.W.Frag) (wl : Addr) (G H : Hp) (j w k : Nat) (Q : VK) : Prop := ∀ (v : V) (H' G' : Hp) (d : PyData), Gr wl G H G' H' → Dq K G' v d → Gd d j w k → Q v H'
def spOddG (K : PySem.W.Frag) : Sp := fun vs H Q _ => ∃ (wl : Addr) (G : Hp), vs = [.ref wl] ∧ Stt wl G H ∧ Drawn K wl G H 0 100 5 Q
theorem oddG {K : PySem.W.Frag} {vs : List V} {H : Hp} {Q : VK} {E : XK} (h : spOddG K vs H Q E) : spOdd K vs H Q E := by
  obtain ⟨wl, G, rfl, s, q⟩ := h
  refine ⟨wl, rfl, s.well, fun v H' d hd D w e => ?_⟩
  exact q v H' _ d (Gr.join s w e) (Dq.mono (join_new s.sub) _ _ D) (odd_gd hd)
theorem Gr.tup {K : PySem.W.Frag} {wl p : Addr} {G H : Hp} {vs : List V} {ds : List PyData} (s : Stt wl G H) {ob : Obj} (hp : H p = none) (hob : ob.dict = none) (A : DqAll K G vs ds) : Gr wl G H (upd G p (.frz ob (.tup vs))) (upd H p (.frz ob (.tup vs))) ∧ Dq K (upd G p (.frz ob (.tup vs))) (.ref p) (.tuple ds) :=
  ⟨Gr.new s hp _, .tup (SqP.of upd_same hob) (DqAll.mono (same_new (s.sub.free hp) _) _ _ A)⟩
theorem Gr.lis {K : PySem.W.Frag} {wl p : Addr} {G H : Hp} {vs : List V} {ds : List PyData} (s : Stt wl G H) (hp : H p = none) (A : DqAll K G vs ds) : Gr wl G H (upd G p (.lst vs)) (upd H p (.lst vs)) ∧ Dq K (upd G p (.lst vs)) (.ref p) (.list ds) :=
  ⟨Gr.new s hp _, .lst (SqL.of upd_same) (DqAll.mono (same_new (s.sub.free hp) _) _ _ A)⟩
theorem gd_str {x : Str} {n j : Nat} (h : txtOk x n) (hn : n ≤ 100 + j) : Gd (.str x) j n 0 := by
  refine ⟨?_, ?_, ?_⟩
  · show (PyData.strOk x && decide (x.length ≤ 100 + j)) = true
    rw [Bool.and_eq_true, decide_eq_true_eq]
    exact ⟨h.1, Nat.le_trans h.2 hn⟩
  · simp only [PyData.weight]; exact h.2
  · simp only [PyData.depth]; exact Nat.le_refl 0
def wk : Nat → Nat
  | 0 => 66
  | 1 => 66
  | n + 2 => 2 * wk (n + 1) + 9
theorem wk_low : ∀ n : Nat, 66 ≤ wk n
  | 0 => Nat.le_refl _
  | 1 => Nat.le_refl _
  | n + 2 => by
    have := wk_low (n + 1)
    show 66 ≤ 2 * wk (n + 1) + 9
    omega
def spKi (K : PySem.W.Frag) (n : Nat) : Sp := fun vs H Q _ => ∃ (wl l : Addr) (G : Hp) (xs : List Str), vs = [.ref wl, .ref l, .int (n : Nat)] ∧ Stt wl G H ∧ H l = some (.lst (xs.map V.str)) ∧ l ≠ wl ∧ 1 ≤ xs.length ∧ xs.length ≤ 1000 ∧ (∀ x ∈ xs, txtOk x 60) ∧ 1 ≤ n ∧ Drawn K wl G H 0 (wk n) n Q
theorem word_ok {l : List Str} (h : l.all (fun x => PyData.strOk x && decide (x.length ≤ 8)) = true) {x : Str} (m : x ∈ l) : txtOk x 8 := by
  have := List.all_eq_true.mp h x m
  rw [Bool.and_eq_true, decide_eq_true_eq] at this
  exact this
section
variable {P : Program} {w : World} {K : PySem.W.Frag} {mg : Str → Option Value} {base : Heap}
theorem none_leftK {f : Addr} {fd : FuncData} {k : Nat} : FnOk P w K mg base CX0 k f fd ["well", "names", "deep"] (fun _ _ _ _ => False) := ⟨fun _ _ _ _ h => h.elim, fun _ _ _ _ _ _ _ _ _ _ _ _ _ h => h.elim⟩
end
end Toy
set_option Elab.async false
set_option linter.all false
set_option maxRecDepth 100000
set_option maxHeartbeats 2000000
namespace Toy
open PySem L2 PyProof.Rows
/-! ### frames without a well -/
structure Fx (G H G' H' : Hp) : Prop where
  gg : Same G G'
  hh : Same H H'
  gh : Same G' H'
  gn : ∀ b, G b = none → H b ≠ none → G' b = none
theorem Fx.refl {G H : Hp} (s : Same G H) : Fx G H G H := ⟨Same.refl G, Same.refl H, s, fun _ h _ => h⟩
theorem Fx.trans {G H G1 H1 G2 H2 : Hp} (a : Fx G H G1 H1) (b : Fx G1 H1 G2 H2) : Fx G H G2 H2 := ⟨a.gg.trans b.gg, a.hh.trans b.hh, b.gh, fun c h1 h2 => b.gn c (a.gn c h1 h2) (fun z => h2 (a.hh.free z))⟩
theorem Fx.same {G H H' : Hp} (s : Same G H) (e : Same H H') : Fx G H G H' := ⟨Same.refl G, e, s.trans e, fun _ h _ => h⟩
theorem Fx.new {G H : Hp} {p : Addr} (s : Same G H) (hp : H p = none) (o : HO) : Fx G H (upd G p o) (upd H p o) := by
  refine ⟨same_new (s.free hp) o, same_new hp o, fun b u h => ?_, fun b h1 h2 => ?_⟩
  · by_cases e : b = p
    · subst e
      rw [upd_same] at h ⊢
      exact h
    · rw [upd_ne e] at h ⊢
      exact s b u h
  · rw [upd_ne (fun e => h2 (by rw [e]; exact hp))]
    exact h1
theorem Fx.gr {wl : Addr} {G H G' H' : Hp} (s : Stt wl G H) (n : Fx G H G' H') : Gr wl G H G' H' := ⟨n.gg, n.gh, n.gn, by
  obtain ⟨a, b, c, h⟩ := s.well
  exact ⟨a, b, c, n.hh _ _ h⟩, .of n.hh⟩
theorem Fx.row1 {K : PySem.W.Frag} {G H : Hp} {t : Addr} {w : Str} {v : V} {d : PyData} {ob : Obj} (s : Same G H) (ht : H t = none) (hob : ob.dict = none) (D : Dq K G v d) :
    Fx G H (upd G t (.frz ob (.tup [.str w, v]))) (upd H t (.frz ob (.tup [.str w, v]))) ∧ Dq K (upd G t (.frz ob (.tup [.str w, v]))) (.ref t) (.tuple [.str w, d]) :=
  ⟨Fx.new s ht _, dq_row1 upd_same hob (Dq.mono (same_new (s.free ht) _) _ _ D)⟩
theorem Fx.row2 {K : PySem.W.Frag} {G H : Hp} {t : Addr} {w : Str} {v v2 : V} {d d2 : PyData} {ob : Obj} (s : Same G H) (ht : H t = none) (hob : ob.dict = none) (D : Dq K G v d) (D2 : Dq K G v2 d2) :
    Fx G H (upd G t (.frz ob (.tup [.str w, v, v2]))) (upd H t (.frz ob (.tup [.str w, v, v2]))) ∧ Dq K (upd G t (.frz ob (.tup [.str w, v, v2]))) (.ref t) (.tuple [.str w, d, d2]) :=
  ⟨Fx.new s ht _, dq_row2 upd_same hob (Dq.mono (same_new (s.free ht) _) _ _ D) (Dq.mono (same_new (s.free ht) _) _ _ D2)⟩
theorem Fx.row0 {K : PySem.W.Frag} {G H : Hp} {t : Addr} {w : Str} {ob : Obj} (s : Same G H) (ht : H t = none) (hob : ob.dict = none) :
    Fx G H (upd G t (.frz ob (.tup [.str w]))) (upd H t (.frz ob (.tup [.str w]))) ∧ Dq K (upd G t (.frz ob (.tup [.str w]))) (.ref t) (.tuple [.str w]) :=
  ⟨Fx.new s ht _, .tup (SqP.of upd_same hob) (.cons (.str _) .nil)⟩
def spMb (K : PySem.W.Frag) (n : Nat) : Sp := fun vs H Q _ => ∃ (G : Hp) (v u : V) (d : PyData) (h : Ho), vs = [v, u] ∧ Same G H ∧ Dq K G v d ∧ fB n d = true ∧ txtB d = true ∧ d.depth ≤ 60 ∧ Dq K G u (hoD h) ∧ hoOk h ∧
  ∀ v' H' G', Fx G H G' H' → Dq K G' v' (kmd n d h) → Q v' H'
section
variable {P : Program} {w : World} {K : PySem.W.Frag} {mg : Str → Option Value} {base : Heap}
theorem none_leftMb {f : Addr} {fd : FuncData} {k : Nat} : FnOk P w K mg base CX0 k f fd ["kind", "hole"] (spMb K 0) := ⟨fun _ _ _ _ h => by
    obtain ⟨G, v, u, d, ho, rfl, _⟩ := h
    rfl, fun _ _ _ _ _ _ _ _ _ _ _ _ _ h => by
    obtain ⟨G, v, u, d, ho, _, _, _, f, _⟩ := h
    cases f⟩
end
end Toy
set_option Elab.async false
set_option linter.all false
set_option maxRecDepth 100000
set_option maxHeartbeats 2000000
namespace Toy
open PySem L2 PyProof.Rows
/-- rows that are pairs of a name and something -/
def RowsP (ds : List PyData) : Prop := ∀ r ∈ ds, ∃ y k, r = .tuple [.str y, k]
def kindsOf (x : Str) (bk : List (Str × PyData)) : List PyData := (bk.filter fun p => decide (p.1 = x)).map (·.2)
theorem kindsOf_look {x : Str} {k : PyData} : ∀ {bk : List (Str × PyData)}, lookB bk x = some k → ∃ r, kindsOf x bk = k :: r
  | [], h => nomatch h
  | p :: bk, h => by
    unfold lookB at h
    unfold kindsOf
    rw [List.find?_cons] at h
    rw [List.filter_cons]
    by_cases z : p.1 = x
    · rw [decide_eq_true z] at h
      rw [decide_eq_true z, if_pos rfl, List.map_cons]
      exact ⟨_, by rw [← Option.some.inj h]⟩
    · rw [decide_eq_false z] at h
      rw [decide_eq_false z, if_neg Bool.false_ne_true]
      exact kindsOf_look h
theorem kindsOf_snoc (x : Str) (bk : List (Str × PyData)) (p : Str × PyData) : kindsOf x (bk ++ [p]) = kindsOf x bk ++ (if p.1 = x then [p.2] else []) := by
  unfold kindsOf
  rw [List.filter_append, List.map_append]
  congr 1
  by_cases z : p.1 = x
  · rw [if_pos z, List.filter_cons, decide_eq_true z]
    rfl
  · rw [if_neg z, List.filter_cons, decide_eq_false z]
    rfl
def spKo (K : PySem.W.Frag) : Sp := fun vs H Q _ => ∃ (G : Hp) (v : V) (ds : List PyData) (x : Str) (k : PyData), vs = [v, .str x] ∧ Same G H ∧ Dq K G v (.tuple ds) ∧ RowsP ds ∧ ds.length ≤ 1000 ∧ lookB (bkOf (.tuple ds)) x = some k ∧ ∀ u H', Same H H' → Dq K G u k → Q u H'
theorem bk_get {ds : List PyData} {i : Nat} {e : PyData} (he : ds[i]? = some e) : (bkOf (.tuple ds))[i]? = some (rowN e, rowK e) := by
  show (ds.map fun r => (rowN r, rowK r))[i]? = _
  rw [List.getElem?_map, he]
  rfl
section
variable {P : Program} {w : World} {K : PySem.W.Frag} {mg : Str → Option Value} {base : Heap} {m : Nat}
end
end Toy
set_option Elab.async false
set_option linter.all false
set_option maxRecDepth 100000
set_option maxHeartbeats 2000000
namespace Toy
open PySem L2 PyProof.Rows
theorem inV_names (x : Str) : ∀ l : List Str, inV (.str x) (l.map V.str) = l.any fun y => decide (y = x)
  | [] => rfl
  | y :: l => by
    have e : inV (.str x) ((y :: l).map V.str) = ((y == x) || inV (.str x) (l.map V.str)) := rfl
    rw [e, inV_names x l, List.any_cons]
    rw [Bool.beq_eq_decide_eq]
theorem look_names {x : Str} : ∀ {bk : List (Str × PyData)}, (lookB bk x).isSome = (bk.map (·.1)).any fun y => decide (y = x)
  | [] => rfl
  | p :: bk => by
    unfold lookB
    rw [List.find?_cons, List.map_cons, List.any_cons]
    by_cases z : p.1 = x
    · rw [decide_eq_true z]
      rfl
    · rw [decide_eq_false z, Bool.false_or]
      exact look_names
theorem bk_names (ds : List PyData) : (bkOf (.tuple ds)).map (·.1) = ds.map rowN := by
  show (ds.map fun r => (rowN r, rowK r)).map (·.1) = _
  rw [List.map_map]
  rfl
theorem flat_strs (l : List Str) : (l.map V.str).all flatV = true := by
  rw [List.all_map]
  exact List.all_eq_true.mpr fun _ _ => rfl
/-- the names' list asked for one -/
theorem names_in {K : PySem.W.Frag} {H : Hp} {L : Addr} {ds : List PyData} {x : Str} (hL : H L = some (.lst ((ds.map rowN).map V.str))) : inV (.str x) ((ds.map rowN).map V.str) = (lookB (bkOf (.tuple ds)) x).isSome := by
  rw [inV_names, look_names, bk_names]
def spLp (K : PySem.W.Frag) (m : Nat) : Sp := fun vs H Q _ => ∃ (v : V) (d : PyData), vs = [v] ∧ Dq K H v d ∧ txtB d = true ∧ d.depth ≤ m ∧ d.weight ≤ 900000 ∧ ∀ H', Same H H' → Q (.bl (lpB m d)) H'
where
  lpB (m : Nat) : PyData → Bool
    | .tuple [x, k] => nmB x && kdB m k
    | _ => false
def spLk (K : PySem.W.Frag) (m : Nat) : Sp := fun vs H Q _ => ∃ (v u : V) (ds : List PyData) (e : PyData), vs = [v, u] ∧ Dq K H v (.tuple ds) ∧ RowsP ds ∧ ds.length ≤ 1000 ∧ Dq K H u e ∧ txtB e = true ∧ e.depth ≤ m ∧ e.weight ≤ 900000 ∧ ∀ H', Same H H' → Q (.bl (knB m (bkOf (.tuple ds)) e)) H'
theorem filtP_all {f : Str → Bool} : ∀ l : List Str, ((l.filter fun x => !f x).map PyData.str).isEmpty = l.all f
  | [] => rfl
  | x :: l => by
    rw [List.filter_cons, List.all_cons]
    cases f x with
    | true => exact filtP_all l
    | false => rfl
theorem nameOf_txt {d : PyData} (t : txtB d = true) : ∀ c ∈ nameOf d, PyData.strOk c = true := by
  unfold nameOf
  split
  · rename_i w x
    intro c hc
    rw [List.mem_singleton.mp hc]
    have tt : (txtB w && (txtB (.str x) && true)) = true := t
    simp only [Bool.and_eq_true] at tt
    have tx : (PyData.strOk x && decide (x.length ≤ 2000)) = true := tt.2.1
    rw [Bool.and_eq_true] at tx
    exact tx.1
  · exact fun _ h => nomatch h
theorem ms_txt : ∀ (n : Nat) (d : PyData), txtB d = true → ∀ c ∈ (ms n d).2.2, PyData.strOk c = true
  | 0, _, _, _, h => nomatch h
  | n + 1, d, t, c, h => by
    have h' : c ∈ (match kids d with | some (a, b) => two (ms n a) (ms n b) | none => (1, 1, nameOf d)).2.2 := h
    cases e : kids d with
    | none =>
      rw [e] at h'
      exact nameOf_txt t c h'
    | some p =>
      obtain ⟨a, b⟩ := p
      rw [e] at h'
      have h2 : c ∈ (ms n a).2.2 ++ (ms n b).2.2 := h'
      obtain ⟨w, rfl⟩ : ∃ w, d = .tuple [w, a, b] := by
        unfold kids at e
        split at e
        · cases e; exact ⟨_, rfl⟩
        · cases e
      have tt : (txtB w && (txtB a && (txtB b && true))) = true := t
      simp only [Bool.and_eq_true] at tt
      rcases List.mem_append.mp h2 with m | m
      · exact ms_txt n a tt.2.1 c m
      · exact ms_txt n b tt.2.2.1 c m
section
variable {P : Program} {w : World} {K : PySem.W.Frag} {mg : Str → Option Value} {base : Heap} {m : Nat}
end
end Toy
set_option Elab.async false
set_option linter.all false
set_option maxRecDepth 100000
set_option maxHeartbeats 1000000
namespace Toy
open PySem L2 PyProof.Rows
/-! ### the last tick of a name -/
theorem quo_cps : quo.cps = #[39] := by decide +kernel
theorem quo_len : quo.length = 1 := by decide +kernel
theorem at_iff (x : Str) (i : Nat) : StrLaws.At x quo x.length i ↔ x.cps.toList[i]? = some 39 := by
  unfold StrLaws.At Builtin.Str.subAt
  rw [quo_len, quo_cps]
  have hx : x.length = x.cps.toList.length := (Array.length_toList).symm
  constructor
  · rintro ⟨h1, h2⟩
    have h3 : x.cps.extract i (i + 1) = #[39] := eq_of_beq h2
    have h4 : (x.cps.extract i (i + 1)).toList = [39] := by rw [h3]
    rw [Array.toList_extract] at h4
    have hi : i < x.cps.toList.length := by omega
    rw [List.getElem?_eq_getElem hi]
    have h5 : List.take (i + 1 - i) (List.drop i x.cps.toList) = [39] := h4
    rw [show i + 1 - i = 1 by omega, List.drop_eq_getElem_cons hi] at h5
    have h6 : [x.cps.toList[i]] = [39] := h5
    injection h6 with h6
    rw [h6]
  · intro h
    obtain ⟨hi, hv⟩ := List.getElem?_eq_some_iff.mp h
    refine ⟨by omega, ?_⟩
    have h4 : (x.cps.extract i (i + 1)).toList = [39] := by
      rw [Array.toList_extract]
      show List.take (i + 1 - i) (List.drop i x.cps.toList) = [39]
      rw [show i + 1 - i = 1 by omega, List.drop_eq_getElem_cons hi, hv]
      rfl
    have h3 : x.cps.extract i (i + 1) = #[39] := Array.toList_inj.mp (by rw [h4])
    rw [h3]
    rfl
/-- where there is no tick -/
theorem rp_none {x : Str} (h : 39 ∉ x.cps.toList) : Txt.rpartition x quo = (Str.empty, Str.empty, x) := by
  unfold Txt.rpartition
  rcases StrLaws.last_spec x quo with ⟨h0, _⟩ | ⟨i, h0, hi, _⟩
  · rw [h0]
  · exact absurd (List.mem_of_getElem? ((at_iff x i).mp hi)) h
/-- the last tick -/
theorem rp_some {x : Str} {A B : List Nat} (e : x.cps.toList = A ++ 39 :: B) (h : 39 ∉ B) : Txt.rpartition x quo = (⟨A.toArray⟩, quo, ⟨B.toArray⟩) := by
  have hA : StrLaws.At x quo x.length A.length := (at_iff x _).mpr (by rw [e]; simp)
  unfold Txt.rpartition
  rcases StrLaws.last_spec x quo with ⟨h0, hn⟩ | ⟨i, h0, hi, hn⟩
  · exact absurd hA (hn _)
  · have hi' := (at_iff x i).mp hi
    have ei : i = A.length := by
      rcases Nat.lt_trichotomy i A.length with z | z | z
      · exact absurd hA (hn _ z)
      · exact z
      · exfalso
        rw [e] at hi'
        have z1 : (A ++ 39 :: B)[i]? = B[i - A.length - 1]? := by
          rw [List.getElem?_append_right (by omega)]
          obtain ⟨j, hj⟩ : ∃ j, i - A.length = j + 1 := ⟨i - A.length - 1, by omega⟩
          rw [hj, List.getElem?_cons_succ]
          rfl
        rw [z1] at hi'
        exact h (List.mem_of_getElem? hi')
    subst ei
    rw [h0]
    have l : x.length = (A ++ 39 :: B).length := by rw [← e]; exact (Array.length_toList).symm
    have e1 : Builtin.Str.strSub x 0 A.length = ⟨A.toArray⟩ := by
      unfold Builtin.Str.strSub
      congr 1
      apply Array.toList_inj.mp
      rw [Array.toList_extract]
      show List.take (A.length - 0) (List.drop 0 x.cps.toList) = A
      rw [e, List.drop_zero, Nat.sub_zero, List.take_left]
    have e2 : Builtin.Str.strSub x (A.length + quo.length) x.length = ⟨B.toArray⟩ := by
      unfold Builtin.Str.strSub
      congr 1
      apply Array.toList_inj.mp
      rw [Array.toList_extract, quo_len]
      show List.take (x.length - (A.length + 1)) (List.drop (A.length + 1) x.cps.toList) = B
      rw [e, l, List.take_of_length_le (by simp; omega)]
      rw [List.drop_append]
      simp
    show (Builtin.Str.strSub x 0 A.length, quo, Builtin.Str.strSub x (A.length + quo.length) x.length) = _
    rw [e1, e2]
/-- pieces without ticks, the last one apart -/
theorem join_last (y p : Str) : ∀ (l : List Str), l ≠ [] → (Str.join y (l ++ [p])).cps.toList = (Str.join y l).cps.toList ++ y.cps.toList ++ p.cps.toList
  | [], h => absurd rfl h
  | [a], _ => by
    show (a ++ y ++ p).cps.toList = _
    rw [app_cps, app_cps]
    rfl
  | a :: b :: r, _ => by
    show (a ++ y ++ Str.join y (b :: r ++ [p])).cps.toList = (a ++ y ++ Str.join y (b :: r)).cps.toList ++ _ ++ _
    rw [app_cps, app_cps, app_cps, app_cps, join_last y p (b :: r) (fun z => nomatch z)]
    simp only [List.append_assoc]
theorem wr_tick {p : Str} (h : wrB p = true) : 39 ∉ p.cps.toList := by
  unfold wrB at h
  intro hm
  cases e : p.cps.toList with
  | nil => rw [e] at hm; cases hm
  | cons c r =>
    rw [e] at h hm
    have h' : (decide (r.length ≤ 7) && (capB c && r.all smB)) = true := h
    rw [Bool.and_eq_true, Bool.and_eq_true] at h'
    have n1 : capB 39 = false := by decide +kernel
    have n2 : smB 39 = false := by decide +kernel
    rcases List.mem_cons.mp hm with rfl | hm
    · rw [n1] at h'
      exact absurd h'.2.1 Bool.false_ne_true
    · have := List.all_eq_true.mp h'.2.2 39 hm
      rw [n2] at this
      cases this
theorem emp_tick {q : Str} (h : V.str q = V.str "") : q.cps.toList = [] := by
  injection h with h
  subst h
  decide +kernel
theorem piece_tick {q : Str} (h : (decide (V.str q = V.str "") || wrB q) = true) : 39 ∉ q.cps.toList := by
  rcases Bool.or_eq_true_iff.mp h with z | z
  · rw [emp_tick (of_decide_eq_true z)]
    exact fun h => nomatch h
  · exact wr_tick z
theorem split_one {y : Str} (h : 39 ∉ y.cps.toList) : Txt.split y quo = [y] := by
  have j := StrLaws.join_split y quo
  rcases List.eq_nil_or_concat (Txt.split y quo) with e | ⟨l, p, e⟩
  · exact absurd e (split_ne y quo)
  · rw [List.concat_eq_append] at e
    rw [e] at j ⊢
    by_cases hl : l = []
    · subst hl
      have j' : p = y := j
      rw [j']
      rfl
    · exfalso
      have z := join_last quo p l hl
      rw [j, quo_cps] at z
      rw [z] at h
      exact h (by simp)
theorem name_ways {x : Str} (h : nmB (.str x) = true) : (wrB x = true ∧ Txt.rpartition x quo = (Str.empty, Str.empty, x)) ∨
    (wrB x = false ∧ ∃ A B : List Nat, x.cps.toList = A ++ 39 :: B ∧ 39 ∉ B ∧ (B = [] ∨ wrB ⟨B.toArray⟩ = true)) := by
  have h' : (decide (x.length ≤ 60) && namL (Txt.split x quo)) = true := h
  rw [Bool.and_eq_true] at h'
  have j := StrLaws.join_split x quo
  have nl := h'.2
  cases e : Txt.split x quo with
  | nil => exact absurd e (split_ne x quo)
  | cons p r =>
    rw [e] at j nl
    have nl' : (wrB p && r.all fun q => decide (V.str q = V.str "") || wrB q) = true := nl
    rw [Bool.and_eq_true, List.all_eq_true] at nl'
    rcases List.eq_nil_or_concat r with rfl | ⟨l, q, rfl⟩
    · have jp : p = x := j
      subst jp
      exact .inl ⟨nl'.1, rp_none (wr_tick nl'.1)⟩
    · rw [List.concat_eq_append] at j nl'
      have z := join_last quo q (p :: l) (fun z => nomatch z)
      have j' : Str.join quo (p :: l ++ [q]) = x := j
      rw [j', quo_cps] at z
      have z' : x.cps.toList = (Str.join quo (p :: l)).cps.toList ++ 39 :: q.cps.toList := by rw [z]; simp
      have hq := nl'.2 q (by simp)
      refine .inr ⟨?_, _, _, z', piece_tick hq, ?_⟩
      · cases hw : wrB x with
        | false => rfl
        | true => exact absurd (show 39 ∈ x.cps.toList by rw [z']; simp) (wr_tick hw)
      · rcases Bool.or_eq_true_iff.mp hq with y | y
        · exact .inl (emp_tick (of_decide_eq_true y))
        · refine .inr ?_
          have eq : (⟨q.cps.toList.toArray⟩ : Str) = q := by simp
          rw [eq]
          exact y
theorem kh_thing {m : Nat} (h1 : 1 ≤ m) (bk : List (Str × PyData)) : khB m bk (hoD .th) = true := by
  obtain ⟨m, rfl⟩ : ∃ k, m = k + 1 := ⟨m - 1, by omega⟩
  have e1 : fB (m + 1) (hoD .th) = true := by
    show fB (m + 1) (.tuple [.str "thing"]) = true
    rw [fB_one]
    decide +kernel
  have e2 : ms (m + 1) (hoD .th) = (1, 1, []) := rfl
  unfold khB knB kdB
  rw [e1, e2]
  show (true && (decide (1 ≤ 30) && decide (1 ≤ 2000)) && true && hoB (hoD .th)) = true
  decide +kernel
theorem kh_name {m : Nat} (h1 : 1 ≤ m) (bk : List (Str × PyData)) {y : Str} (hw : wrB y = true) (hl : y.length ≤ 60) : khB m bk (hoD (.nm y)) = (lookB bk y).isSome := by
  obtain ⟨m, rfl⟩ : ∃ k, m = k + 1 := ⟨m - 1, by omega⟩
  have hn : nmB (.str y) = true := by
    show (decide (y.length ≤ 60) && namL (Txt.split y quo)) = true
    rw [split_one (wr_tick hw), decide_eq_true hl]
    show (true && (wrB y && true)) = true
    rw [hw]
    rfl
  have e1 : fB (m + 1) (hoD (.nm y)) = true := by
    show fB (m + 1) (.tuple [.str "name", .str y]) = true
    rw [fB_nam, hn]
    decide +kernel
  have e2 : ms (m + 1) (hoD (.nm y)) = (1, 1, [y]) := rfl
  have e3 : hoB (hoD (.nm y)) = true := by
    show (w1 "name" && wrB y) = true
    rw [hw]
    decide +kernel
  unfold khB knB kdB
  rw [e1, e2, e3]
  show (true && (decide (1 ≤ 30) && decide (1 ≤ 2000)) && ((lookB bk y).isSome && true) && true) = _
  cases (lookB bk y).isSome <;> rfl
/-- the law's own look at a name by a hole -/
def lrB (bk : List (Str × PyData)) (x : Str) (k : PyData) : Bool := match lookB bk (stemOf x) with
  | some c => (decide (V.str (lastOf x) = V.str "") || (lookB bk (lastOf x)).isSome) && PyData.eqv k (kmd 30 c (hoOf (lastOf x)))
  | none => false
theorem ru_law {m : Nat} (h1 : 1 ≤ m) {bk : List (Str × PyData)} {x : Str} {k : PyData} (hx : nmB (.str x) = true) :
    ((Txt.rpartition x quo).2.1 = "" ∧ ruB m bk x k = true) ∨ ((Txt.rpartition x quo).2.1 = quo ∧ ruB m bk x k = lrB bk x k) := by
  have hl : x.length ≤ 60 := by
    have h' : (decide (x.length ≤ 60) && namL (Txt.split x quo)) = true := hx
    rw [Bool.and_eq_true, decide_eq_true_eq] at h'
    exact h'.1
  rcases name_ways hx with ⟨hw, e⟩ | ⟨hw, A, B, ex, hB, hb⟩
  · refine .inl ⟨by rw [e]; rfl, ?_⟩
    unfold ruB
    rw [hw, Bool.true_or]
  · have e := rp_some ex hB
    refine .inr ⟨by rw [e], ?_⟩
    have el : lastOf x = ⟨B.toArray⟩ := by unfold lastOf; rw [e]
    unfold ruB lrB
    rw [hw, Bool.false_or]
    cases lookB bk (stemOf x) with
    | none => rfl
    | some c =>
      show (khB m bk (hoD (hoOf (lastOf x))) && _) = ((decide (V.str (lastOf x) = V.str "") || (lookB bk (lastOf x)).isSome) && _)
      congr 1
      by_cases hz : decide (V.str (lastOf x) = V.str "") = true
      · have eh : hoOf (lastOf x) = .th := if_pos hz
        rw [eh, hz, Bool.true_or]
        exact kh_thing h1 bk
      · have eh : hoOf (lastOf x) = .nm (lastOf x) := if_neg hz
        rw [eh, Bool.eq_false_iff.mpr hz, Bool.false_or]
        refine kh_name h1 bk ?_ ?_
        · rcases hb with rfl | hb
          · exfalso
            refine hz (decide_eq_true ?_)
            rw [el]
            rfl
          · rw [el]
            exact hb
        · rw [el]
          show B.toArray.size ≤ 60
          rw [List.size_toArray]
          have : x.cps.toList.length = (A ++ 39 :: B).length := by rw [ex]
          have hx2 : x.cps.toList.length = x.length := Array.length_toList
          rw [List.length_append, List.length_cons] at this
          omega
end Toy
set_option Elab.async false
set_option linter.all false
set_option maxRecDepth 100000
set_option maxHeartbeats 4000000
namespace Toy
open PySem L2 PyProof.Rows
/-! ### the law's first look: pairs in ascending order -/
def abv : Option Str → Str → Bool
  | none, _ => true
  | some p, x => lessS p x
def l1B (m : Nat) : Option Str → List PyData → Bool
  | _, [] => true
  | o, r :: rs => (spLp.lpB m r && abv o (rowN r)) && l1B m (some (rowN r)) rs
theorem pair_lp (m : Nat) (p : Str) (r : PyData) : pairB m p r = (spLp.lpB m r && lessS p (rowN r)) := by
  unfold pairB
  split
  · rename_i x k
    show (nmB x && (lessS p (nmX x) && kdB m k)) = ((nmB x && kdB m k) && lessS p (nmX x))
    cases nmB x <;> cases lessS p (nmX x) <;> cases kdB m k <;> rfl
  · rename_i hno
    cases e : spLp.lpB m r with
    | false => rfl
    | true =>
      exfalso
      unfold spLp.lpB at e
      split at e
      · exact hno _ _ rfl
      · cases e
theorem lp_form {m : Nat} {r : PyData} (h : spLp.lpB m r = true) : ∃ y k, r = .tuple [.str y, k] ∧ nmB (.str y) = true ∧ kdB m k = true := by
  unfold spLp.lpB at h
  split at h
  · rename_i x k
    rw [Bool.and_eq_true] at h
    obtain ⟨y, rfl⟩ := nmB_str h.1
    exact ⟨y, k, rfl, h.1, h.2⟩
  · cases h
theorem l1_some (m : Nat) : ∀ (p : Str) (ds : List PyData), l1B m (some p) ds = upB m p ds
  | _, [] => rfl
  | p, r :: rs => by
    show ((spLp.lpB m r && lessS p (rowN r)) && l1B m (some (rowN r)) rs) = (pairB m p r && upB m (rowN r) rs)
    rw [pair_lp, l1_some m (rowN r) rs]
theorem less_emp {y : Str} (h : nmB (.str y) = true) : lessS "" y = true := by
  refine decide_eq_true ?_
  have e0 : (("" : Str)).cps.toList = [] := by decide +kernel
  rw [e0]
  cases e : y.cps.toList with
  | nil =>
    exfalso
    have ey : y = "" := by
      have e2 : y.cps = #[] := Array.toList_inj.mp (by rw [e])
      have e3 : y = ⟨#[]⟩ := by rw [← e2]
      rw [e3]
      decide +kernel
    rw [ey] at h
    exact absurd h (by decide +kernel)
  | cons c r => exact List.nil_lt_cons c r
theorem l1_none (m : Nat) : ∀ (ds : List PyData), l1B m none ds = upB m "" ds
  | [] => rfl
  | r :: rs => by
    show ((spLp.lpB m r && true) && l1B m (some (rowN r)) rs) = (pairB m "" r && upB m (rowN r) rs)
    rw [pair_lp, l1_some m (rowN r) rs, Bool.and_true]
    cases e : spLp.lpB m r with
    | false => rfl
    | true =>
      obtain ⟨y, k, rfl, hy, _⟩ := lp_form e
      rw [show lessS "" (rowN (.tuple [.str y, k])) = true from less_emp hy]
      rfl
theorem joinT {N C : Addr → Hp → Prop} {G : Prop} (h : ∀ t H, C t H → N t H) (k : (∀ t H, C t H → N t H) → G) : G := k h
def prv (ds : List PyData) : Nat → Option Str
  | 0 => none
  | i + 1 => (ds[i]?).map rowN
def spWa (K : PySem.W.Frag) (m : Nat) : Sp := fun vs H Q _ => ∃ (v : V) (d : PyData), vs = [v] ∧ Dq K H v d ∧ txtB d = true ∧ d.depth ≤ m ∧ d.weight ≤ 900000 ∧
  ∀ t H' dd, Same H H' → Dp K H' (.ref t) dd → SeqAt.shaped dd = true → PyData.eqv dd (.tuple [.str "book"]) = tbB m d → Q (.ref t) H'
section
variable {P : Program} {w : World} {K : PySem.W.Frag} {mg : Str → Option Value} {base : Heap} {m : Nat}
end
end Toy
set_option Elab.async false
set_option linter.all false
set_option maxRecDepth 100000
set_option maxHeartbeats 4000000
namespace L2
open PySem PySem.Spec PyProof.Rows
def tCallZ (sp : Sp) (t : TA) : TE := fun σ H Q => t σ H fun vs H1 => sp vs H1 Q E0
theorem pe_callZD {X : Cx} {Z : Around → Prop} {f : Addr} {fd : FuncData} {ps : List Str} {sp : Sp} {x : Str} {p pos : Pos} {e : Expr} {es : List Expr} {t : TA} (F : FnZ Z X.prog X.w X.K X.mg X.base f fd ps sp) (hz : Z X.A) (hg : Gl X x) (hm : X.mg x = some (.ref f)) (hk : PySem.W.keepIn X.K (.ref f) = true) (hb : Binds X.K fd ps [])
    (ha : PA X (e :: es) t) (hdb : (x == ("__debug__" : Str)) = false := by decide) (he : starEach (e :: es) X.env = (false, eval e X.env) :: starEach es X.env := by rfl) (hpl : (backTo pos (starEach es X.env)).any (·.1) = false := by rfl) :
    PE X (.Call (.Name x p) (e :: es) [] pos) (tCallZ sp t) := pe_callZ F hz hg hm hk hb ha hdb he hpl
end L2
namespace Toy
open PySem L2
structure GvZ (Z : Around → Prop) (P : Program) (w : World) (K : PySem.W.Frag) (mg : Str → Option Value) (base : Heap) (x : Str) (f : Addr) (fd : FuncData) (ps : List Str) (sp : Sp) : Prop where
  ok : FnZ Z P w K mg base f fd ps sp
  b : Binds K fd ps []
  k : PySem.W.keepIn K (.ref f) = true
  m : mg x = some (.ref f)
/-- what may be judged -/
abbrev Jd (d : PyData) : Prop := Gd d 2 400000 110
def spJu (K : PySem.W.Frag) : Sp := fun vs H Q _ => ∃ (v : V) (d : PyData) (b : Bool), vs = [v, .bl b] ∧ Dq K H v d ∧ Jd d ∧ ∀ H', Same H H' → Q (.bl true) H'
theorem one_bl (a : Bool) : (PyData.bool a).showable = true ∧ (PyData.bool a).shown.length ≤ sizeLine ∧ (PyData.bool a).depth ≤ 60 := by
  have h : ∀ a : Bool, ((PyData.bool a).showable && (decide ((PyData.bool a).shown.length ≤ 100) && decide ((PyData.bool a).depth ≤ 60))) = true := by
    intro a
    cases a <;> decide +kernel
  have z := h a
  rw [Bool.and_eq_true, Bool.and_eq_true, decide_eq_true_eq, decide_eq_true_eq] at z
  exact ⟨z.1, Nat.le_trans z.2.1 (by decide), z.2.2⟩
def spSameA (K : PySem.W.Frag) : Sp := fun vs H Q _ => ∃ (v u : V) (d : PyData), vs = [v, u] ∧ Dq K H v d ∧ Dq K H u d ∧ d.showable = true ∧ d.shown.length ≤ sizeLine ∧ d.depth ≤ 300 ∧ Q (.bl true) H
theorem topP_of {K : PySem.W.Frag} {H : Hp} {v : V} {d : PyData} (h : Dq K H v d) : TopP K H v d := fun ds e => by
  subst e
  obtain ⟨a, xs, ev, hp, hA⟩ := dq_tupleP h
  exact ⟨a, xs, ev, hp, hA⟩
mutual
theorem dp_mono {K : PySem.W.Frag} {H H' : Hp} (e : Same H H') : ∀ {d : PyData} {v : V}, Dp K H v d → Dp K H' v d
  | .none, _, .non => .non
  | .bool _, _, .bl b => .bl b
  | .int _, _, .int i => .int i
  | .str _, _, .str x => .str x
  | .list ds, _, .lst h a => .lst (e.seq h) (dpAll_mono e a)
  | .tuple ds, _, .tup h a => .tup (e.seqT h) (dpAll_mono e a)
theorem dpAll_mono {K : PySem.W.Frag} {H H' : Hp} (e : Same H H') : ∀ {ds : List PyData} {vs : List V}, DpAll K H vs ds → DpAll K H' vs ds
  | [], _, .nil => .nil
  | d :: ds, _, .cons h r => .cons (dp_mono e h) (dpAll_mono e r)
end
section
variable {P : Program} {w : World} {K : PySem.W.Frag} {mg : Str → Option Value} {base : Heap} {C : Addr}
theorem scSa : FnScope ["gave", "due"] ["gave", "due"] (defScope sSame) := ⟨rfl, rfl, rfl, by decide +kernel, rfl, by decide +kernel, by decide +kernel⟩
theorem ok_sameA {f : Addr} {fd : FuncData} (F : Fun K "_law_is" "_law_is" sSame f fd) (T : Nm mg) : FnZ (RoomG 126) P w K mg base f fd ["gave", "due"] (spSameA K) := by
  refine F.okZ true scSa (fun A z => z.depth) (fun _ A z => z.room.hd) (fun vs H Q E h => ?_) (fun cdv A outer s H vs Q hz h => ?_)
  · obtain ⟨v, u, d, rfl, _⟩ := h
    rfl
  obtain ⟨v, u, d, rfl, ha, hb, ok, sz, dp, q⟩ := h
  have hz' : ∀ env, RoomG 125 (A.deeper env) := fun env => hz.deeper env
  have hu : ∀ env, (A.deeper env).units + 400 < cLine := fun env => by
    have y := (hz' env).room.un
    omega
  refine ⟨_, pss_one (ps_ret (pe_cmpR op_eq (pe_callB (call_repA (hu _) (hz' _).gs) rfl T.repr (by decide +kernel) (pa_cons (pv 0) pa_nil)) (pe_callB (call_repA (hu _) (hz' _).gs) rfl T.repr (by decide +kernel) (pa_cons (pv 1) pa_nil)) (nomark _))), ?_⟩
  refine ⟨_, rfl, v, d, rfl, ha, ok, sz, dp, _, rfl, u, d, rfl, hb, ok, sz, dp, rfl, ?_⟩
  rw [decide_eq_true rfl]
  exact q
end
end Toy
set_option Elab.async false
set_option linter.all false
set_option maxRecDepth 100000
set_option maxHeartbeats 2000000
namespace Toy
open PySem L2 PyProof.Rows
/-! ### names as written, drawn -/
def spWrt : Sp := fun vs H Q _ => ∃ (wl : Addr), vs = [.ref wl] ∧ WellAt H wl ∧ ∀ (x : Str) (H' : Hp), wrB x = true → txtOk x 8 → WellAt H' wl → But wl H H' → Q (.str x) H'
theorem lWr_wr : ∀ x ∈ lWr, wrB x = true := by
  have h : lWr.all wrB = true := by decide +kernel
  exact fun x m => List.all_eq_true.mp h x m
def wrX (x : Str) (i : Nat) : Prop := ∃ c r, x.cps.toList = c :: r ∧ capB c = true ∧ r.all smB = true ∧ r.length ≤ i
theorem wrX_wr {x : Str} {i : Nat} (h : wrX x i) (hi : i ≤ 7) : wrB x = true := by
  obtain ⟨c, r, e, h1, h2, h3⟩ := h
  show wrL x.cps.toList = true
  rw [e]
  show (decide (r.length ≤ 7) && (capB c && r.all smB)) = true
  rw [decide_eq_true (by omega), h1, h2]
  rfl
theorem wrX_snoc {x : Str} {i c : Nat} (h : wrX x i) (hc : c ∈ SMALLS.cps.toList) : wrX (x ++ ⟨#[c]⟩) (i + 1) := by
  obtain ⟨c0, r, e, h1, h2, h3⟩ := h
  refine ⟨c0, r ++ [c], ?_, h1, ?_, ?_⟩
  · rw [app_cps, e]
    rfl
  · rw [List.all_append, h2]
    show (smB c && true) = true
    rw [show smB c = true from decide_eq_true hc]
    rfl
  · rw [List.length_append, List.length_singleton]
    omega
theorem up_less {xs : List Str} (h : StrO.upS xs) (n : xs.Nodup) : xs.Pairwise fun x y => lessS x y = true := by
  refine (List.pairwise_iff_forall_sublist.mpr fun {x y} hs => ?_)
  have h1 := List.pairwise_iff_forall_sublist.mp h hs
  have h2 := List.pairwise_iff_forall_sublist.mp n hs
  refine decide_eq_true ?_
  have le : x.cps.toList ≤ y.cps.toList := List.not_lt.mp h1
  rcases Std.lt_trichotomy x.cps.toList y.cps.toList with z | z | z
  · exact z
  · exfalso
    refine h2 ?_
    have : x.cps = y.cps := Array.toList_inj.mp z
    cases x
    cases y
    simp only at this
    rw [this]
  · exact absurd z h1
def spNs (K : PySem.W.Frag) : Sp := fun vs H Q _ => ∃ (wl : Addr) (n : Nat), vs = [.ref wl, .int (n : Nat)] ∧ WellAt H wl ∧ 1 ≤ n ∧ n ≤ 10 ∧ ∀ (l : Addr) (ns : List Str) (H' : Hp), (∀ x ∈ ns, wrB x = true ∧ txtOk x 8) → ns ≠ [] → ns.length ≤ n → ns.Pairwise (fun x y => lessS x y = true) →
  H l = none → H' l = some (.lst (ns.map V.str)) → WellAt H' wl → But wl H H' → Q (.ref l) H'
section
variable {P : Program} {w : World} {K : PySem.W.Frag} {mg : Str → Option Value} {base : Heap}
end
end Toy
set_option Elab.async false
set_option linter.all false
set_option maxRecDepth 100000
set_option maxHeartbeats 4000000
namespace Toy
open PySem L2 PyProof.Rows
/-! ### kinds drawn: of names told -/
inductive KT (ok : Str → Prop) : Nat → PyData → Prop
  | one {n : Nat} {w : Str} : w3 w = true → KT ok (n + 1) (.tuple [.str w])
  | nam {n : Nat} {x : Str} : ok x → KT ok (n + 1) (.tuple [.str "name", .str x])
  | two {n : Nat} {w : Str} {a b : PyData} : w2 w = true → KT ok n a → KT ok n b → KT ok (n + 1) (.tuple [.str w, a, b])
theorem KT.row {ok : Str → Prop} {n : Nat} {w : Str} {a b : PyData} (h : 1 ≤ n) (hw : w2 w = true) (ha : KT ok (n - 1) a) (hb : KT ok (n - 1) b) : KT ok n (.tuple [.str w, a, b]) := by
  obtain ⟨m, rfl⟩ : ∃ m, n = m + 1 := ⟨n - 1, by omega⟩
  exact .two hw ha hb
theorem KT.one' {ok : Str → Prop} {n : Nat} {w : Str} (h : 1 ≤ n) (hw : w3 w = true) : KT ok n (.tuple [.str w]) := by
  obtain ⟨m, rfl⟩ : ∃ m, n = m + 1 := ⟨n - 1, by omega⟩
  exact .one hw
theorem KT.nam' {ok : Str → Prop} {n : Nat} {x : Str} (h : 1 ≤ n) (hx : ok x) : KT ok n (.tuple [.str "name", .str x]) := by
  obtain ⟨m, rfl⟩ : ∃ m, n = m + 1 := ⟨n - 1, by omega⟩
  exact .nam hx
theorem kt_words {x : Str} (h : x ∈ (["unit", "unit", "unit", "none"] : List Str)) : w3 x = true := by
  have z : (["unit", "unit", "unit", "none"] : List Str).all w3 = true := by decide +kernel
  exact List.all_eq_true.mp z x h
def DrawnK (K : PySem.W.Frag) (wl : Addr) (G H : Hp) (n : Nat) (ok : Str → Prop) (Q : VK) : Prop := ∀ (v : V) (H' G' : Hp) (d : PyData), Gr wl G H G' H' → Dq K G' v d → Gd d 0 (wk n) n → KT ok n d → Q v H'
def spKx (K : PySem.W.Frag) (n : Nat) : Sp := fun vs H Q _ => ∃ (wl l : Addr) (G : Hp) (xs : List Str), vs = [.ref wl, .ref l, .int (n : Nat)] ∧ Stt wl G H ∧ H l = some (.lst (xs.map V.str)) ∧ l ≠ wl ∧ xs.length ≤ 1000 ∧ (∀ x ∈ xs, txtOk x 60) ∧ 1 ≤ n ∧ DrawnK K wl G H n (· ∈ xs) Q
section
variable {P : Program} {w : World} {K : PySem.W.Frag} {mg : Str → Option Value} {base : Heap}
theorem none_leftKX {f : Addr} {fd : FuncData} {k : Nat} : FnOk P w K mg base CX0 k f fd ["well", "names", "deep"] (fun _ _ _ _ => False) := ⟨fun _ _ _ _ h => h.elim, fun _ _ _ _ _ _ _ _ _ _ _ _ _ h => h.elim⟩
end
end Toy
set_option Elab.async false
set_option linter.all false
set_option maxRecDepth 100000
set_option maxHeartbeats 4000000
namespace Toy
open PySem L2 PyProof.Rows
theorem KT.up {ok : Str → Prop} {n m : Nat} {d : PyData} (t : KT ok n d) (h : n ≤ m) : KT ok m d := by
  induction t generalizing m with
  | one hw => exact .one' (by omega) hw
  | nam hx => exact .nam' (by omega) hx
  | two hw _ _ ia ib =>
    obtain ⟨k, rfl⟩ : ∃ k, m = k + 1 := ⟨m - 1, by omega⟩
    exact .two hw (ia (by omega)) (ib (by omega))
theorem KT.ok {ok ok' : Str → Prop} {n : Nat} {d : PyData} (t : KT ok n d) (h : ∀ x, ok x → ok' x) : KT ok' n d := by
  induction t with
  | one hw => exact .one hw
  | nam hx => exact .nam (h _ hx)
  | two hw _ _ ia ib => exact .two hw ia ib
theorem joinV {N C : V → Hp → Prop} {G : Prop} (h : ∀ v H, C v H → N v H) (k : (∀ v H, C v H → N v H) → G) : G := k h
theorem gd_pair {w : Str} {a b : PyData} {n : Nat} (hw : txtOk w 8) (h : 1 ≤ n) (ga : Gd a 0 (wk n) n) (gb : Gd b 0 (wk n) n) : Gd (.tuple [.str w, a, b]) 0 (2 * wk n + 11) (n + 1) := by
  have lw : w.cps.size ≤ 8 := hw.2
  refine ⟨?_, ?_, ?_⟩
  · show (gdB 0 (.str w) && (gdB 0 a && (gdB 0 b && true))) = true
    rw [(gd_str hw (j := 0) (by omega)).g, ga.g, gb.g]
    rfl
  · have x := ga.w
    have y := gb.w
    simp only [PyData.weight, PyData.weightAll]
    omega
  · have x := ga.k
    have y := gb.k
    simp only [PyData.depth, PyData.depthAll]
    omega
def DrawnB (K : PySem.W.Frag) (wl : Addr) (G H : Hp) (w n : Nat) (ok : Str → Prop) (Q : VK) : Prop := ∀ (v : V) (H' G' : Hp) (d : PyData), Gr wl G H G' H' → Dq K G' v d → Gd d 0 w n → KT ok n d → Q v H'
def spBo (K : PySem.W.Frag) : Sp := fun vs H Q _ => ∃ (wl l : Addr) (G : Hp) (xs : List Str), vs = [.ref wl, .ref l] ∧ Stt wl G H ∧ H l = some (.lst (xs.map V.str)) ∧ l ≠ wl ∧ 1 ≤ xs.length ∧ xs.length ≤ 1000 ∧ (∀ x ∈ xs, txtOk x 60) ∧ DrawnB K wl G H 5000 5 (· ∈ xs) Q
section
variable {P : Program} {w : World} {K : PySem.W.Frag} {mg : Str → Option Value} {base : Heap}
end
end Toy
set_option Elab.async false
set_option linter.all false
set_option maxRecDepth 100000
set_option maxHeartbeats 4000000
namespace Toy
open PySem L2 PyProof.Rows
/-- the rows of a drawn book -/
def RowsB (ns : List Str) (ds : List PyData) : Prop := ∀ r ∈ ds, ∃ y k, r = .tuple [.str y, k] ∧ wrB y = true ∧ txtOk y 8 ∧ KT (· ∈ ns) 6 k ∧ Gd k 0 5000 6
structure BookD (ns : List Str) (ds : List PyData) : Prop where
  names : ds.map rowN = ns
  rows : RowsB ns ds
  up : ns.Pairwise fun x y => lessS x y = true
  ne : ns ≠ []
  few : ns.length ≤ 4
def spBk (K : PySem.W.Frag) : Sp := fun vs H Q _ => ∃ (wl : Addr) (G : Hp), vs = [.ref wl] ∧ Stt wl G H ∧ ∀ (v : V) (H' G' : Hp) (ns : List Str) (ds : List PyData), Gr wl G H G' H' → Dq K G' v (.tuple ds) → BookD ns ds → Q v H'
section
variable {P : Program} {w : World} {K : PySem.W.Frag} {mg : Str → Option Value} {base : Heap}
end
end Toy
set_option Elab.async false
set_option linter.all false
set_option maxRecDepth 100000
set_option maxHeartbeats 1000000
namespace Toy
open PySem L2 PyProof.Rows
/-! ### a drawn book is one -/
theorem wr_name {y : Str} (h : wrB y = true) (hl : y.length ≤ 60) : nmB (.str y) = true := by
  show (decide (y.length ≤ 60) && namL (Txt.split y quo)) = true
  rw [split_one (wr_tick h), decide_eq_true hl]
  show (true && (wrB y && true)) = true
  rw [h]
  rfl
theorem kt_facts {ok : Str → Prop} (ho : ∀ x, ok x → nmB (.str x) = true) : ∀ {n : Nat} {d : PyData}, KT ok n d → ∀ {m : Nat}, n ≤ m → fB m d = true ∧ (ms m d).1 ≤ n ∧ (ms m d).2.1 + 1 ≤ 2 ^ n ∧ ∀ x ∈ (ms m d).2.2, ok x := by
  intro n d t
  induction t with
  | @one n w hw =>
    intro m hm
    obtain ⟨m, rfl⟩ : ∃ k, m = k + 1 := ⟨m - 1, by omega⟩
    have e : ms (m + 1) (.tuple [.str w]) = (1, 1, []) := rfl
    have p : 2 ^ 1 ≤ 2 ^ (n + 1) := Nat.pow_le_pow_right (by decide) (by omega)
    rw [e, fB_one]
    exact ⟨hw, by show 1 ≤ n + 1; omega, by show 1 + 1 ≤ _; omega, fun _ h => nomatch h⟩
  | @nam n x hx =>
    intro m hm
    obtain ⟨m, rfl⟩ : ∃ k, m = k + 1 := ⟨m - 1, by omega⟩
    have e : ms (m + 1) (.tuple [.str "name", .str x]) = (1, 1, [x]) := rfl
    have p : 2 ^ 1 ≤ 2 ^ (n + 1) := Nat.pow_le_pow_right (by decide) (by omega)
    rw [e, fB_nam, ho x hx]
    exact ⟨by decide +kernel, by show 1 ≤ n + 1; omega, by show 1 + 1 ≤ _; omega, fun y h => by rw [List.mem_singleton.mp h]; exact hx⟩
  | @two n w a b hw _ _ ia ib =>
    intro m hm
    obtain ⟨m, rfl⟩ : ∃ k, m = k + 1 := ⟨m - 1, by omega⟩
    obtain ⟨a1, a2, a3, a4⟩ := ia (m := m) (by omega)
    obtain ⟨b1, b2, b3, b4⟩ := ib (m := m) (by omega)
    have e : ms (m + 1) (.tuple [.str w, a, b]) = two (ms m a) (ms m b) := rfl
    rw [e, fB_two, hw, a1, b1]
    refine ⟨rfl, ?_, ?_, fun x h => ?_⟩
    · show max _ _ + 1 ≤ _
      omega
    · show (ms m a).2.1 + (ms m b).2.1 + 1 + 1 ≤ _
      have : 2 ^ (n + 1) = 2 ^ n * 2 := Nat.pow_succ ..
      omega
    · have h' : x ∈ (ms m a).2.2 ++ (ms m b).2.2 := h
      rcases List.mem_append.mp h' with z | z
      · exact a4 x z
      · exact b4 x z
theorem up_of {m : Nat} : ∀ {ds : List PyData} {p : Str}, (∀ r ∈ ds, ∃ y k, r = .tuple [.str y, k] ∧ nmB (.str y) = true ∧ kdB m k = true ∧ lessS p y = true) → (ds.Pairwise fun r s => lessS (rowN r) (rowN s) = true) → upB m p ds = true
  | [], _, _, _ => rfl
  | r :: ds, p, h, u => by
    obtain ⟨y, k, rfl, h1, h2, h3⟩ := h r List.mem_cons_self
    obtain ⟨u1, u2⟩ := List.pairwise_cons.mp u
    show (pairB m p (.tuple [.str y, k]) && upB m y ds) = true
    have e : pairB m p (.tuple [.str y, k]) = true := by
      show (nmB (.str y) && (lessS p y && kdB m k)) = true
      rw [h1, h2, h3]
      rfl
    rw [e, Bool.true_and]
    refine up_of (fun s ms => ?_) u2
    obtain ⟨y', k', rfl, a1, a2, _⟩ := h s (List.mem_cons_of_mem _ ms)
    exact ⟨y', k', rfl, a1, a2, u1 _ ms⟩
/-- what makes a row of pairs a book -/
theorem tb_of {m : Nat} {ds : List PyData} (hl : ds.length ≤ 80) (hr : ∀ r ∈ ds, ∃ y k, r = .tuple [.str y, k] ∧ nmB (.str y) = true ∧ knB m (bkOf (.tuple ds)) k = true ∧ ruB m (bkOf (.tuple ds)) y k = true)
    (hu : ds.Pairwise fun r s => lessS (rowN r) (rowN s) = true) : tbB m (.tuple ds) = true := by
  have e1 : cpB m (.tuple ds) = true := by
    show (decide (ds.length ≤ 80) && upB m "" ds) = true
    rw [decide_eq_true hl, Bool.true_and]
    refine up_of (fun r mr => ?_) hu
    obtain ⟨y, k, e, h1, h2, h3⟩ := hr r mr
    unfold knB at h2
    rw [Bool.and_eq_true] at h2
    exact ⟨y, k, e, h1, h2.1, less_emp h1⟩
  unfold tbB
  rw [e1, Bool.true_and, Bool.and_eq_true, List.all_eq_true, List.all_eq_true]
  refine ⟨fun p mp => ?_, fun p mp => ?_⟩
  · obtain ⟨r, mr, rfl⟩ := List.mem_map.mp mp
    obtain ⟨y, k, rfl, _, h2, _⟩ := hr r mr
    exact h2
  · obtain ⟨r, mr, rfl⟩ := List.mem_map.mp mp
    obtain ⟨y, k, rfl, _, _, h3⟩ := hr r mr
    exact h3
theorem look_some {x : Str} {bk : List (Str × PyData)} (h : x ∈ bk.map (·.1)) : (lookB bk x).isSome = true := by
  rw [look_names]
  exact List.any_eq_true.mpr ⟨x, h, decide_eq_true rfl⟩
theorem bookD_ok {m : Nat} {ns : List Str} {ds : List PyData} (hm : 30 ≤ m) (b : BookD ns ds) : tbB m (.tuple ds) = true := by
  have hn : ∀ x, x ∈ ns → nmB (.str x) = true := fun x hx => by
    rw [← b.names] at hx
    obtain ⟨r, mr, rfl⟩ := List.mem_map.mp hx
    obtain ⟨y, k, rfl, hw, hy, _⟩ := b.rows r mr
    have hy8 : y.length ≤ 8 := hy.2
    show nmB (.str y) = true
    exact wr_name hw (by omega)
  have hlen : ds.length = ns.length := by rw [← b.names, List.length_map]
  refine tb_of (by have := b.few; omega) (fun r mr => ?_) ?_
  · obtain ⟨y, k, rfl, hw, hy, t, g⟩ := b.rows r mr
    obtain ⟨f1, f2, f3, f4⟩ := kt_facts hn t (m := m) (by omega)
    refine ⟨y, k, rfl, wr_name hw (by have := hy.2; omega), ?_, ?_⟩
    · have e : (2 : Nat) ^ 6 = 64 := by decide
      unfold knB kdB
      rw [f1, decide_eq_true (by omega), decide_eq_true (by omega)]
      show ((ms m k).2.2.all fun x => (lookB (bkOf (.tuple ds)) x).isSome) = true
      refine List.all_eq_true.mpr fun x hx => look_some ?_
      rw [bk_names, b.names]
      exact f4 x hx
    · unfold ruB
      rw [hw]
      rfl
  · have u := b.up
    rw [← b.names, List.pairwise_map] at u
    exact u
end Toy
set_option Elab.async false
set_option linter.all false
set_option maxRecDepth 100000
set_option maxHeartbeats 4000000
namespace Toy
open PySem L2 PyProof.Rows
def noTick (y : Str) : Bool := !decide (39 ∈ y.cps.toList)
/-- a hole of a book's names as written, or the thing -/
def HoIn (ns : List Str) : Ho → Prop
  | .th => True
  | .nm y => y ∈ ns ∧ noTick y = true
def spHl (K : PySem.W.Frag) : Sp := fun vs H Q _ => ∃ (wl : Addr) (G : Hp) (v : V) (ds : List PyData), vs = [.ref wl, v] ∧ Stt wl G H ∧ Dq K G v (.tuple ds) ∧ RowsP ds ∧ ds.length ≤ 1000 ∧ (∀ r ∈ ds, PyData.strOk (rowN r) = true) ∧
  ∀ (u : V) (H' G' : Hp) (h : Ho), Gr wl G H G' H' → Dq K G' u (hoD h) → HoIn (ds.map rowN) h → Q u H'
theorem filt_emp {f : Str → Bool} (l : List Str) : ((l.filter f).map PyData.str).isEmpty = true ↔ l.filter f = [] := by
  rw [List.isEmpty_iff, List.map_eq_nil_iff]
section
variable {P : Program} {w : World} {K : PySem.W.Frag} {mg : Str → Option Value} {base : Heap}
end
end Toy
set_option Elab.async false
set_option linter.all false
set_option maxRecDepth 100000
set_option maxHeartbeats 1000000
namespace Toy
open PySem L2 PyProof.Rows
/-! ### a kind by a hole: form, names -/
theorem ms_row (m : Nat) (w : Str) (a b : PyData) : ms (m + 1) (.tuple [.str w, a, b]) = two (ms m a) (ms m b) := rfl
theorem ms_fuel : ∀ {n : Nat} {d : PyData} {m : Nat}, fB n d = true → n ≤ m → ms m d = ms n d
  | 0, _, _, h, _ => nomatch h
  | n + 1, d, m, h, le => by
    obtain ⟨m, rfl⟩ : ∃ k, m = k + 1 := ⟨m - 1, by omega⟩
    rcases fB_cases h with ⟨w, rfl, _⟩ | ⟨w, x, rfl, _, _⟩ | ⟨n', w, a, b, en, rfl, _, ha, hb⟩
    · rfl
    · rfl
    · have en' : n = n' := by omega
      subst en'
      rw [ms_row, ms_row, ms_fuel ha (by omega), ms_fuel hb (by omega)]
theorem fB_fuel {n m : Nat} {d : PyData} (h : fB n d = true) (le : n ≤ m) : fB m d = true := by
  have : ∀ {n : Nat} {d : PyData} {m : Nat}, fB n d = true → n ≤ m → fB m d = true := by
    intro n
    induction n with
    | zero => intro d m h; cases h
    | succ n ih =>
      intro d m h le
      obtain ⟨m, rfl⟩ : ∃ k, m = k + 1 := ⟨m - 1, by omega⟩
      rcases fB_cases h with ⟨w, rfl, hw⟩ | ⟨w, x, rfl, hw, hx⟩ | ⟨n', w, a, b, en, rfl, hw, ha, hb⟩
      · rw [fB_one]; exact hw
      · rw [fB_nam, hw, hx]; rfl
      · have en' : n = n' := by omega
        subst en'
        rw [fB_two, hw, ih ha (by omega), ih hb (by omega)]
        rfl
  exact this h le
/-- a name that the hole brings by itself -/
def hoOwn : Ho → Str → Prop
  | .th, _ => False
  | .nm y, z => z = calD y (.nm y)
def okN (h : Ho) (ns : List Str) (z : Str) : Prop := z ∈ ns ∨ (∃ x ∈ ns, z = calD x h) ∨ hoOwn h z
theorem okN.sub {h : Ho} {ns ns' : List Str} {z : Str} (o : okN h ns z) (s : ∀ x ∈ ns, x ∈ ns') : okN h ns' z := by
  rcases o with o | ⟨x, hx, e⟩ | o
  · exact .inl (s _ o)
  · exact .inr (.inl ⟨x, s _ hx, e⟩)
  · exact .inr (.inr o)
theorem hol_names {h : Ho} {m : Nat} {z : Str} (hm : 2 ≤ m) (hz : z ∈ (ms m (holD h)).2.2) : hoOwn h z := by
  obtain ⟨m, rfl⟩ : ∃ k, m = k + 2 := ⟨m - 2, by omega⟩
  cases h with
  | th =>
    have e : (ms (m + 2) (holD .th)).2.2 = [] := rfl
    rw [e] at hz
    cases hz
  | nm y =>
    have e : (ms (m + 2) (holD (.nm y))).2.2 = [calD y (.nm y)] := rfl
    rw [e] at hz
    exact List.mem_singleton.mp hz
theorem hol_form {h : Ho} {m : Nat} (hm : 2 ≤ m) (ho : ∀ z, hoOwn h z → nmB (.str z) = true) : fB m (holD h) = true := by
  obtain ⟨m, rfl⟩ : ∃ k, m = k + 2 := ⟨m - 2, by omega⟩
  cases h with
  | th =>
    show fB (m + 2) (.tuple [.str "unit"]) = true
    rw [fB_one]
    decide +kernel
  | nm y =>
    show fB (m + 1 + 1) (.tuple [.str "either", .tuple [.str "unit"], .tuple [.str "name", .str (calD y (.nm y))]]) = true
    rw [fB_two, fB_one, fB_nam, ho _ rfl]
    decide +kernel
theorem kmd_names {h : Ho} : ∀ {n : Nat} {d : PyData} {m : Nat} {z : Str}, fB n d = true → 2 * n ≤ m → z ∈ (ms m (kmd n d h)).2.2 → okN h (ms n d).2.2 z
  | 0, _, _, _, f, _, _ => nomatch f
  | n + 1, d, m, z, f, le, hz => by
    by_cases e : PyData.eqv d (hoD h) = true
    · rw [kmd_hol _ _ _ e] at hz
      exact .inr (.inr (hol_names (by omega) hz))
    · rcases fB_cases f with ⟨w, rfl, hw⟩ | ⟨w, x, rfl, hw, hx⟩ | ⟨n', w, a, b, en, rfl, hw, ha, hb⟩
      · rw [kmd_one _ _ _ e] at hz
        obtain ⟨m, rfl⟩ : ∃ k, m = k + 1 := ⟨m - 1, by omega⟩
        have e1 : (ms (m + 1) (.tuple [.str "none"])).2.2 = [] := rfl
        rw [e1] at hz
        cases hz
      · rw [kmd_nam _ _ _ _ e] at hz
        obtain ⟨m, rfl⟩ : ∃ k, m = k + 1 := ⟨m - 1, by omega⟩
        have e1 : (ms (m + 1) (.tuple [.str "name", .str (calD x h)])).2.2 = [calD x h] := rfl
        rw [e1] at hz
        exact .inr (.inl ⟨x, List.mem_singleton.mpr rfl, List.mem_singleton.mp hz⟩)
      · have en' : n = n' := by omega
        subst en'
        have sa : ∀ x ∈ (ms n a).2.2, x ∈ (ms (n + 1) (.tuple [.str w, a, b])).2.2 := fun x hx => by rw [ms_row]; exact List.mem_append_left _ hx
        have sb : ∀ x ∈ (ms n b).2.2, x ∈ (ms (n + 1) (.tuple [.str w, a, b])).2.2 := fun x hx => by rw [ms_row]; exact List.mem_append_right _ hx
        rw [kmd_row _ _ _ _ _ e] at hz
        by_cases q : wE w = true
        · rw [if_pos q] at hz
          obtain ⟨m, rfl⟩ : ∃ k, m = k + 1 := ⟨m - 1, by omega⟩
          rw [ms_row] at hz
          rcases List.mem_append.mp (show z ∈ (ms m (kmd n a h)).2.2 ++ (ms m (kmd n b h)).2.2 from hz) with z1 | z1
          · exact (kmd_names ha (by omega) z1).sub sa
          · exact (kmd_names hb (by omega) z1).sub sb
        · rw [if_neg q] at hz
          obtain ⟨m, rfl⟩ : ∃ k, m = k + 2 := ⟨m - 2, by omega⟩
          rw [ms_row, ms_row, ms_row] at hz
          rcases List.mem_append.mp (show z ∈ ((ms m (kmd n a h)).2.2 ++ (ms m b).2.2) ++ ((ms m a).2.2 ++ (ms m (kmd n b h)).2.2) from hz) with z1 | z1
          · rcases List.mem_append.mp z1 with z2 | z2
            · exact (kmd_names ha (by omega) z2).sub sa
            · rw [ms_fuel hb (by omega)] at z2
              exact .inl (sb _ z2)
          · rcases List.mem_append.mp z1 with z2 | z2
            · rw [ms_fuel ha (by omega)] at z2
              exact .inl (sa _ z2)
            · exact (kmd_names hb (by omega) z2).sub sb
theorem kmd_form {h : Ho} (ho : ∀ z, hoOwn h z → nmB (.str z) = true) : ∀ {n : Nat} {d : PyData}, fB n d = true → (∀ x ∈ (ms n d).2.2, nmB (.str (calD x h)) = true) → fB (2 * n) (kmd n d h) = true
  | 0, _, f, _ => nomatch f
  | n + 1, d, f, hn => by
    have e2 : 2 * (n + 1) = 2 * n + 1 + 1 := by omega
    by_cases e : PyData.eqv d (hoD h) = true
    · rw [kmd_hol _ _ _ e]
      exact hol_form (by omega) ho
    · rcases fB_cases f with ⟨w, rfl, hw⟩ | ⟨w, x, rfl, hw, hx⟩ | ⟨n', w, a, b, en, rfl, hw, ha, hb⟩
      · rw [kmd_one _ _ _ e, e2, fB_one]
        decide +kernel
      · rw [kmd_nam _ _ _ _ e, e2, fB_nam, hn x (List.mem_singleton.mpr rfl)]
        decide +kernel
      · have en' : n = n' := by omega
        subst en'
        have fa := kmd_form ho ha (fun x hx => hn x (by rw [ms_row]; exact List.mem_append_left _ hx))
        have fb := kmd_form ho hb (fun x hx => hn x (by rw [ms_row]; exact List.mem_append_right _ hx))
        have wp : w2 "pair" = true := by decide +kernel
        have we : w2 "either" = true := by decide +kernel
        rw [kmd_row _ _ _ _ _ e, e2]
        by_cases q : wE w = true
        · rw [if_pos q, fB_two, we, fB_fuel fa (by omega), fB_fuel fb (by omega)]
          rfl
        · rw [if_neg q, fB_two, fB_two, fB_two, we, wp, fa, fb, fB_fuel ha (by omega), fB_fuel hb (by omega)]
          rfl
end Toy
set_option Elab.async false
set_option linter.all false
set_option maxRecDepth 100000
set_option maxHeartbeats 1000000
namespace Toy
open PySem L2 PyProof.Rows
/-! ### parts of a kind by one hole, by two -/
/-- parts of the kind by any hole, at most -/
def bF : Nat → PyData → Nat
  | 0, _ => 3
  | n + 1, d => match d with
    | .tuple [w, a, b] => (if wE (nmX w) = true then 1 else 3 + (ms n a).2.1 + (ms n b).2.1) + bF n a + bF n b
    | _ => 3
/-- by any two, one behind the other -/
def cF : Nat → PyData → Nat
  | 0, _ => 7
  | n + 1, d => match d with
    | .tuple [w, a, b] => (if wE (nmX w) = true then 1 else 7 + 2 * bF n a + 2 * bF n b + (ms n a).2.1 + (ms n b).2.1) + cF n a + cF n b
    | _ => 7
theorem bF_row (n : Nat) (w : Str) (a b : PyData) : bF (n + 1) (.tuple [.str w, a, b]) = (if wE w = true then 1 else 3 + (ms n a).2.1 + (ms n b).2.1) + bF n a + bF n b := rfl
theorem cF_row (n : Nat) (w : Str) (a b : PyData) : cF (n + 1) (.tuple [.str w, a, b]) = (if wE w = true then 1 else 7 + 2 * bF n a + 2 * bF n b + (ms n a).2.1 + (ms n b).2.1) + cF n a + cF n b := rfl
theorem bF_fuel : ∀ {n : Nat} {d : PyData} {m : Nat}, fB n d = true → n ≤ m → bF m d = bF n d
  | 0, _, _, h, _ => nomatch h
  | n + 1, d, m, h, le => by
    obtain ⟨m, rfl⟩ : ∃ k, m = k + 1 := ⟨m - 1, by omega⟩
    rcases fB_cases h with ⟨w, rfl, _⟩ | ⟨w, x, rfl, _, _⟩ | ⟨n', w, a, b, en, rfl, _, ha, hb⟩
    · rfl
    · rfl
    · have en' : n = n' := by omega
      subst en'
      rw [bF_row, bF_row, bF_fuel ha (by omega), bF_fuel hb (by omega), ms_fuel ha (by omega : n ≤ m), ms_fuel hb (by omega : n ≤ m)]
theorem two_parts (x y : Nat × Nat × List Str) : (two x y).2.1 = x.2.1 + y.2.1 + 1 := rfl
theorem wE_e : wE "either" = true := by decide +kernel
theorem wE_p : wE "pair" = false := by decide +kernel
theorem bF_leaf (n : Nat) (w : Str) (d : PyData) : bF n (.tuple [.str w, d]) = 3 := by cases n <;> rfl
theorem bF_one (n : Nat) (w : Str) : bF n (.tuple [.str w]) = 3 := by cases n <;> rfl
theorem p_hol {h : Ho} {m : Nat} (hm : 2 ≤ m) : (ms m (holD h)).2.1 ≤ 3 := by
  obtain ⟨m, rfl⟩ : ∃ k, m = k + 2 := ⟨m - 2, by omega⟩
  cases h with
  | th =>
    have e : (ms (m + 2) (holD .th)).2.1 = 1 := rfl
    omega
  | nm y =>
    have e : (ms (m + 2) (holD (.nm y))).2.1 = 3 := rfl
    omega
theorem b_hol {h : Ho} {m : Nat} (hm : 2 ≤ m) : bF m (holD h) ≤ 7 := by
  obtain ⟨m, rfl⟩ : ∃ k, m = k + 1 := ⟨m - 1, by omega⟩
  cases h with
  | th =>
    have e : bF (m + 1) (holD .th) = 3 := rfl
    omega
  | nm y =>
    show bF (m + 1) (.tuple [.str "either", .tuple [.str "unit"], .tuple [.str "name", .str (calD y (.nm y))]]) ≤ 7
    rw [bF_row, if_pos wE_e, bF_one, bF_leaf]
    omega
theorem b_three : ∀ (n : Nat) (d : PyData), 3 ≤ bF n d
  | 0, _ => Nat.le_refl 3
  | n + 1, d => by
    unfold bF
    split
    · rename_i w a b
      have := b_three n a
      have := b_three n b
      omega
    · exact Nat.le_refl 3
theorem c_seven : ∀ (n : Nat) (d : PyData), 7 ≤ cF n d
  | 0, _ => Nat.le_refl 7
  | n + 1, d => by
    unfold cF
    split
    · rename_i w a b
      have := c_seven n a
      have := c_seven n b
      omega
    · exact Nat.le_refl 7
theorem p_one (m : Nat) (w : Str) : (ms m (.tuple [.str w])).2.1 = 1 := by cases m <;> rfl
theorem p_leaf (m : Nat) (w : Str) (d : PyData) : (ms m (.tuple [.str w, d])).2.1 = 1 := by cases m <;> rfl
theorem b_le {h : Ho} : ∀ {n : Nat} {d : PyData} {m : Nat}, fB n d = true → 2 * n ≤ m → (ms m (kmd n d h)).2.1 ≤ bF n d
  | 0, _, _, f, _ => nomatch f
  | n + 1, d, m, f, le => by
    have b3 := b_three (n + 1) d
    by_cases e : PyData.eqv d (hoD h) = true
    · rw [kmd_hol _ _ _ e]
      have := p_hol (h := h) (m := m) (by omega)
      omega
    · rcases fB_cases f with ⟨w, rfl, hw⟩ | ⟨w, x, rfl, hw, hx⟩ | ⟨n', w, a, b, en, rfl, hw, ha, hb⟩
      · rw [kmd_one _ _ _ e, p_one]
        omega
      · rw [kmd_nam _ _ _ _ e, p_leaf]
        omega
      · have en' : n = n' := by omega
        subst en'
        rw [kmd_row _ _ _ _ _ e, bF_row]
        by_cases q : wE w = true
        · rw [if_pos q, if_pos q]
          obtain ⟨m, rfl⟩ : ∃ k, m = k + 1 := ⟨m - 1, by omega⟩
          have ia := b_le (h := h) ha (m := m) (by omega)
          have ib := b_le (h := h) hb (m := m) (by omega)
          rw [ms_row, two_parts]
          omega
        · rw [if_neg q, if_neg q]
          obtain ⟨m, rfl⟩ : ∃ k, m = k + 2 := ⟨m - 2, by omega⟩
          have ia := b_le (h := h) ha (m := m) (by omega)
          have ib := b_le (h := h) hb (m := m) (by omega)
          rw [ms_row, ms_row, ms_row, two_parts, two_parts, two_parts, ms_fuel hb (by omega : n ≤ m), ms_fuel ha (by omega : n ≤ m)]
          omega
theorem c_le {h : Ho} : ∀ {n : Nat} {d : PyData} {m : Nat}, fB n d = true → 2 * n ≤ m → bF m (kmd n d h) ≤ cF n d
  | 0, _, _, f, _ => nomatch f
  | n + 1, d, m, f, le => by
    have c7 := c_seven (n + 1) d
    by_cases e : PyData.eqv d (hoD h) = true
    · rw [kmd_hol _ _ _ e]
      have := b_hol (h := h) (m := m) (by omega)
      omega
    · rcases fB_cases f with ⟨w, rfl, hw⟩ | ⟨w, x, rfl, hw, hx⟩ | ⟨n', w, a, b, en, rfl, hw, ha, hb⟩
      · rw [kmd_one _ _ _ e, bF_one]
        omega
      · rw [kmd_nam _ _ _ _ e, bF_leaf]
        omega
      · have en' : n = n' := by omega
        subst en'
        rw [kmd_row _ _ _ _ _ e, cF_row]
        by_cases q : wE w = true
        · rw [if_pos q, if_pos q]
          obtain ⟨m, rfl⟩ : ∃ k, m = k + 1 := ⟨m - 1, by omega⟩
          have ia := c_le (h := h) ha (m := m) (by omega)
          have ib := c_le (h := h) hb (m := m) (by omega)
          rw [bF_row, if_pos wE_e]
          omega
        · rw [if_neg q, if_neg q]
          obtain ⟨m, rfl⟩ : ∃ k, m = k + 2 := ⟨m - 2, by omega⟩
          have ia := c_le (h := h) ha (m := m) (by omega)
          have ib := c_le (h := h) hb (m := m) (by omega)
          have pa := b_le (h := h) ha (m := m) (by omega)
          have pb := b_le (h := h) hb (m := m) (by omega)
          have np : ¬ wE "pair" = true := by rw [wE_p]; exact Bool.false_ne_true
          rw [bF_row, if_pos wE_e, bF_row, bF_row, if_neg np, if_neg np, bF_fuel hb (by omega : n ≤ m), bF_fuel ha (by omega : n ≤ m), ms_fuel hb (by omega : n ≤ m), ms_fuel ha (by omega : n ≤ m)]
          omega
/-- the greatest numbers by depth -/
def nums : Nat → Nat × Nat × Nat
  | 0 => (0, 0, 0)
  | n + 1 => (1 + 2 * (nums n).1, 3 + 2 * (nums n).2.1 + 2 * (nums n).1, 7 + 2 * (nums n).2.2 + 4 * (nums n).2.1 + 2 * (nums n).1)
theorem kt_nums {ok : Str → Prop} : ∀ {n : Nat} {d : PyData}, KT ok n d → ∀ {m : Nat}, n ≤ m → (ms m d).2.1 ≤ (nums n).1 ∧ bF m d ≤ (nums n).2.1 ∧ cF m d ≤ (nums n).2.2 := by
  intro n d t
  induction t with
  | @one n w hw =>
    intro m hm
    obtain ⟨m, rfl⟩ : ∃ k, m = k + 1 := ⟨m - 1, by omega⟩
    have c : cF (m + 1) (.tuple [.str w]) = 7 := rfl
    rw [p_one, bF_one, c]
    show 1 ≤ 1 + 2 * (nums n).1 ∧ 3 ≤ 3 + 2 * (nums n).2.1 + 2 * (nums n).1 ∧ 7 ≤ 7 + 2 * (nums n).2.2 + 4 * (nums n).2.1 + 2 * (nums n).1
    omega
  | @nam n x hx =>
    intro m hm
    obtain ⟨m, rfl⟩ : ∃ k, m = k + 1 := ⟨m - 1, by omega⟩
    have c : cF (m + 1) (.tuple [.str "name", .str x]) = 7 := rfl
    rw [p_leaf, bF_leaf, c]
    show 1 ≤ 1 + 2 * (nums n).1 ∧ 3 ≤ 3 + 2 * (nums n).2.1 + 2 * (nums n).1 ∧ 7 ≤ 7 + 2 * (nums n).2.2 + 4 * (nums n).2.1 + 2 * (nums n).1
    omega
  | @two n w a b hw _ _ ia ib =>
    intro m hm
    obtain ⟨m, rfl⟩ : ∃ k, m = k + 1 := ⟨m - 1, by omega⟩
    obtain ⟨a1, a2, a3⟩ := ia (m := m) (by omega)
    obtain ⟨b1, b2, b3⟩ := ib (m := m) (by omega)
    rw [ms_row, two_parts, bF_row, cF_row]
    show _ ≤ 1 + 2 * (nums n).1 ∧ _ ≤ 3 + 2 * (nums n).2.1 + 2 * (nums n).1 ∧ _ ≤ 7 + 2 * (nums n).2.2 + 4 * (nums n).2.1 + 2 * (nums n).1
    by_cases q : wE w = true
    · rw [if_pos q, if_pos q]
      omega
    · rw [if_neg q, if_neg q]
      omega
theorem nums_five : nums 5 = (31, 191, 1151) := by decide
end Toy
set_option Elab.async false
set_option linter.all false
set_option maxRecDepth 100000
set_option maxHeartbeats 1000000
namespace Toy
open PySem L2 PyProof.Rows
/-! ### names by a hole -/
theorem str_ext {a b : Str} (h : a.cps.toList = b.cps.toList) : a = b := by
  have e : a.cps = b.cps := Array.toList_inj.mp h
  cases a
  cases b
  simp only at e
  rw [e]
theorem calD_cps (y : Str) (h : Ho) : (calD y h).cps.toList = y.cps.toList ++ 39 :: (hoT h).cps.toList := by
  unfold calD
  rw [app_cps, app_cps, quo_cps]
  simp
theorem calD_rp {y : Str} {h : Ho} (ht : 39 ∉ (hoT h).cps.toList) : Txt.rpartition (calD y h) quo = (y, quo, hoT h) := by
  rw [rp_some (calD_cps y h) ht]
theorem calD_stem {y : Str} {h : Ho} (ht : 39 ∉ (hoT h).cps.toList) : stemOf (calD y h) = y ∧ lastOf (calD y h) = hoT h := by
  unfold stemOf lastOf
  rw [calD_rp ht]
  exact ⟨rfl, rfl⟩
theorem calD_wr (y : Str) (h : Ho) : wrB (calD y h) = false := by
  cases e : wrB (calD y h) with
  | false => rfl
  | true => exact absurd (show 39 ∈ (calD y h).cps.toList by rw [calD_cps]; simp) (wr_tick e)
/-- the thing, or a name as written -/
def HoW : Ho → Prop
  | .th => True
  | .nm y => wrB y = true ∧ y.length ≤ 8 ∧ PyData.strOk y = true
theorem how_tick {h : Ho} (k : HoW h) : 39 ∉ (hoT h).cps.toList := by
  cases h with
  | th => decide +kernel
  | nm y => exact wr_tick k.1
theorem how_of {h : Ho} (k : HoW h) : hoOf (hoT h) = h := by
  cases h with
  | th => exact if_pos (decide_eq_true rfl)
  | nm y =>
    refine if_neg ?_
    intro z
    have e := emp_tick (q := y) (of_decide_eq_true z)
    have kw := k.1
    unfold wrB at kw
    rw [e] at kw
    cases kw
theorem how_len {h : Ho} (k : HoW h) : (hoT h).length ≤ 8 := by
  cases h with
  | th => decide +kernel
  | nm y => exact k.2.1
theorem quo_all : quo.cps.all (· < 256) = true := by decide +kernel
theorem calD_name {y : Str} {h : Ho} (hy : nmB (.str y) = true) (k : HoW h) (hl : y.length ≤ 50) : nmB (.str (calD y h)) = true := by
  have h' : (decide (y.length ≤ 60) && namL (Txt.split y quo)) = true := hy
  rw [Bool.and_eq_true] at h'
  have j := StrLaws.join_split y quo
  have len : (calD y h).length ≤ 60 := by
    have e : (calD y h).cps.toList.length = (y.cps.toList ++ 39 :: (hoT h).cps.toList).length := by rw [calD_cps]
    have e1 : (calD y h).cps.toList.length = (calD y h).length := Array.length_toList
    have e2 : y.cps.toList.length = y.length := Array.length_toList
    have e3 : (hoT h).cps.toList.length = (hoT h).length := Array.length_toList
    have := how_len k
    rw [List.length_append, List.length_cons] at e
    omega
  show (decide ((calD y h).length ≤ 60) && namL (Txt.split (calD y h) quo)) = true
  rw [decide_eq_true len, Bool.true_and]
  cases e : Txt.split y quo with
  | nil => exact absurd e (split_ne y quo)
  | cons p r =>
    rw [e] at j h'
    have nl : (wrB p && r.all fun q => decide (V.str q = V.str "") || wrB q) = true := h'.2
    rw [Bool.and_eq_true] at nl
    have last : (decide (V.str (hoT h) = V.str "") || wrB (hoT h)) = true := by
      cases h with
      | th => decide +kernel
      | nm z =>
        have kw : wrB z = true := k.1
        show (decide (V.str z = V.str "") || wrB z) = true
        rw [kw, Bool.or_true]
    have ej : calD y h = Str.join quo ((p :: r) ++ [hoT h]) := str_ext (by rw [join_last quo (hoT h) (p :: r) (fun z => nomatch z), j, calD_cps, quo_cps]; simp)
    have es : Txt.split (calD y h) quo = (p :: r) ++ [hoT h] := by
      rw [ej, ← TL.join_eq]
      refine TL.split_join (y := quo) (s := 39) (S := []) (parts := (p :: r) ++ [hoT h]) (by decide +kernel) quo_all (fun z => nomatch z) fun q hq => ?_
      rcases List.mem_append.mp hq with m | m
      · rcases List.mem_cons.mp m with rfl | m
        · exact wr_tick nl.1
        · exact piece_tick (List.all_eq_true.mp nl.2 q m)
      · rw [List.mem_singleton.mp m]
        exact how_tick k
    rw [es]
    show (wrB p && (r ++ [hoT h]).all fun q => decide (V.str q = V.str "") || wrB q) = true
    rw [nl.1, List.all_append, nl.2, Bool.true_and, Bool.true_and]
    show ((decide (V.str (hoT h) = V.str "") || wrB (hoT h)) && true) = true
    rw [last]
    rfl
end Toy
set_option Elab.async false
set_option linter.all false
set_option maxRecDepth 100000
set_option maxHeartbeats 1000000
namespace Toy
open PySem L2 PyProof.Rows
/-! ### depth by the pairs on the way -/
def pd : Nat → PyData → Nat
  | n + 1, .tuple [.str w, a, b] => max (pd n a) (pd n b) + (if wE w = true then 0 else 1)
  | _, _ => 0
theorem pd_row (n : Nat) (w : Str) (a b : PyData) : pd (n + 1) (.tuple [.str w, a, b]) = max (pd n a) (pd n b) + (if wE w = true then 0 else 1) := rfl
theorem pd_one (n : Nat) (w : Str) : pd n (.tuple [.str w]) = 0 := by cases n <;> rfl
theorem pd_leaf (n : Nat) (w : Str) (d : PyData) : pd n (.tuple [.str w, d]) = 0 := by cases n <;> rfl
theorem pd_fuel : ∀ {n : Nat} {d : PyData} {m : Nat}, fB n d = true → n ≤ m → pd m d = pd n d
  | 0, _, _, f, _ => nomatch f
  | n + 1, d, m, f, le => by
    obtain ⟨m, rfl⟩ : ∃ k, m = k + 1 := ⟨m - 1, by omega⟩
    rcases fB_cases f with ⟨w, rfl, _⟩ | ⟨w, x, rfl, _, _⟩ | ⟨n', w, a, b, en, rfl, _, ha, hb⟩
    · rw [pd_one, pd_one]
    · rw [pd_leaf, pd_leaf]
    · have en' : n = n' := by omega
      subst en'
      rw [pd_row, pd_row, pd_fuel ha (by omega), pd_fuel hb (by omega)]
theorem pd_le : ∀ {n : Nat} {d : PyData}, fB n d = true → pd n d + 1 ≤ n
  | 0, _, f => nomatch f
  | n + 1, d, f => by
    rcases fB_cases f with ⟨w, rfl, _⟩ | ⟨w, x, rfl, _, _⟩ | ⟨n', w, a, b, en, rfl, _, ha, hb⟩
    · rw [pd_one]; omega
    · rw [pd_leaf]; omega
    · have en' : n = n' := by omega
      subst en'
      have x := pd_le ha
      have y := pd_le hb
      rw [pd_row]
      split <;> omega
theorem pd_hol {h : Ho} (m : Nat) : pd m (holD h) = 0 := by
  cases h with
  | th => exact pd_one m _
  | nm x =>
    show pd m (.tuple [.str "either", .tuple [.str "unit"], .tuple [.str "name", .str (calD x (.nm x))]]) = 0
    cases m with
    | zero => rfl
    | succ m => rw [pd_row, pd_one, pd_leaf, if_pos wE_e]; rfl
theorem pd_kmd {h : Ho} : ∀ {n : Nat} {d : PyData} {m : Nat}, fB n d = true → n + pd n d + 1 ≤ m → pd m (kmd n d h) ≤ pd n d
  | 0, _, _, f, _ => nomatch f
  | n + 1, d, m, f, le => by
    by_cases e : PyData.eqv d (hoD h) = true
    · rw [kmd_hol _ _ _ e, pd_hol]
      exact Nat.zero_le _
    · rcases fB_cases f with ⟨w, rfl, hw⟩ | ⟨w, x, rfl, hw, hx⟩ | ⟨n', w, a, b, en, rfl, hw, ha, hb⟩
      · rw [kmd_one _ _ _ e, pd_one]
        exact Nat.zero_le _
      · rw [kmd_nam _ _ _ _ e, pd_leaf]
        exact Nat.zero_le _
      · have en' : n = n' := by omega
        subst en'
        rw [pd_row] at le ⊢
        rw [kmd_row _ _ _ _ _ e]
        by_cases q : wE w = true
        · rw [if_pos q] at le ⊢
          rw [if_pos q]
          obtain ⟨m, rfl⟩ : ∃ k, m = k + 1 := ⟨m - 1, by omega⟩
          have x := pd_kmd (h := h) ha (m := m) (by omega)
          have y := pd_kmd (h := h) hb (m := m) (by omega)
          rw [pd_row, if_pos wE_e]
          omega
        · rw [if_neg q] at le ⊢
          rw [if_neg q]
          obtain ⟨m, rfl⟩ : ∃ k, m = k + 2 := ⟨m - 2, by omega⟩
          have x := pd_kmd (h := h) ha (m := m) (by omega)
          have y := pd_kmd (h := h) hb (m := m) (by omega)
          have wp : ¬ wE "pair" = true := by rw [wE_p]; exact Bool.false_ne_true
          rw [pd_row, pd_row, pd_row, if_pos wE_e, if_neg wp, pd_fuel ha (by omega), pd_fuel hb (by omega)]
          omega
theorem kmd_form2 {h : Ho} (ho : ∀ z, hoOwn h z → nmB (.str z) = true) : ∀ {n : Nat} {d : PyData} {m : Nat}, fB n d = true → n + pd n d + 1 ≤ m → (∀ x ∈ (ms n d).2.2, nmB (.str (calD x h)) = true) → fB m (kmd n d h) = true
  | 0, _, _, f, _, _ => nomatch f
  | n + 1, d, m, f, le, hn => by
    by_cases e : PyData.eqv d (hoD h) = true
    · rw [kmd_hol _ _ _ e]
      exact hol_form (by omega) ho
    · rcases fB_cases f with ⟨w, rfl, hw⟩ | ⟨w, x, rfl, hw, hx⟩ | ⟨n', w, a, b, en, rfl, hw, ha, hb⟩
      · obtain ⟨m, rfl⟩ : ∃ k, m = k + 1 := ⟨m - 1, by omega⟩
        rw [kmd_one _ _ _ e, fB_one]
        decide +kernel
      · obtain ⟨m, rfl⟩ : ∃ k, m = k + 1 := ⟨m - 1, by omega⟩
        rw [kmd_nam _ _ _ _ e, fB_nam, hn x (List.mem_singleton.mpr rfl)]
        decide +kernel
      · have en' : n = n' := by omega
        subst en'
        rw [pd_row] at le
        have na : ∀ x ∈ (ms n a).2.2, nmB (.str (calD x h)) = true := fun x hx => hn x (by rw [ms_row]; exact List.mem_append_left _ hx)
        have nb : ∀ x ∈ (ms n b).2.2, nmB (.str (calD x h)) = true := fun x hx => hn x (by rw [ms_row]; exact List.mem_append_right _ hx)
        have wp : w2 "pair" = true := by decide +kernel
        have we : w2 "either" = true := by decide +kernel
        rw [kmd_row _ _ _ _ _ e]
        by_cases q : wE w = true
        · rw [if_pos q] at le
          obtain ⟨m, rfl⟩ : ∃ k, m = k + 1 := ⟨m - 1, by omega⟩
          have fa := kmd_form2 ho ha (m := m) (by omega) na
          have fb := kmd_form2 ho hb (m := m) (by omega) nb
          rw [if_pos q, fB_two, we, fa, fb]
          rfl
        · rw [if_neg q] at le
          obtain ⟨m, rfl⟩ : ∃ k, m = k + 2 := ⟨m - 2, by omega⟩
          have fa := kmd_form2 ho ha (m := m) (by omega) na
          have fb := kmd_form2 ho hb (m := m) (by omega) nb
          rw [if_neg q, fB_two, fB_two, fB_two, we, wp, fa, fb, fB_fuel ha (by omega), fB_fuel hb (by omega)]
          rfl
theorem kmd_names2 {h : Ho} : ∀ {n : Nat} {d : PyData} {m : Nat} {z : Str}, fB n d = true → n + pd n d + 1 ≤ m → z ∈ (ms m (kmd n d h)).2.2 → okN h (ms n d).2.2 z
  | 0, _, _, _, f, _, _ => nomatch f
  | n + 1, d, m, z, f, le, hz => by
    by_cases e : PyData.eqv d (hoD h) = true
    · rw [kmd_hol _ _ _ e] at hz
      exact .inr (.inr (hol_names (by omega) hz))
    · rcases fB_cases f with ⟨w, rfl, hw⟩ | ⟨w, x, rfl, hw, hx⟩ | ⟨n', w, a, b, en, rfl, hw, ha, hb⟩
      · rw [kmd_one _ _ _ e] at hz
        obtain ⟨m, rfl⟩ : ∃ k, m = k + 1 := ⟨m - 1, by omega⟩
        have e1 : (ms (m + 1) (.tuple [.str "none"])).2.2 = [] := rfl
        rw [e1] at hz
        cases hz
      · rw [kmd_nam _ _ _ _ e] at hz
        obtain ⟨m, rfl⟩ : ∃ k, m = k + 1 := ⟨m - 1, by omega⟩
        have e1 : (ms (m + 1) (.tuple [.str "name", .str (calD x h)])).2.2 = [calD x h] := rfl
        rw [e1] at hz
        exact .inr (.inl ⟨x, List.mem_singleton.mpr rfl, List.mem_singleton.mp hz⟩)
      · have en' : n = n' := by omega
        subst en'
        have sa : ∀ x ∈ (ms n a).2.2, x ∈ (ms (n + 1) (.tuple [.str w, a, b])).2.2 := fun x hx => by rw [ms_row]; exact List.mem_append_left _ hx
        have sb : ∀ x ∈ (ms n b).2.2, x ∈ (ms (n + 1) (.tuple [.str w, a, b])).2.2 := fun x hx => by rw [ms_row]; exact List.mem_append_right _ hx
        rw [pd_row] at le
        rw [kmd_row _ _ _ _ _ e] at hz
        by_cases q : wE w = true
        · rw [if_pos q] at le hz
          obtain ⟨m, rfl⟩ : ∃ k, m = k + 1 := ⟨m - 1, by omega⟩
          rw [ms_row] at hz
          rcases List.mem_append.mp (show z ∈ (ms m (kmd n a h)).2.2 ++ (ms m (kmd n b h)).2.2 from hz) with z1 | z1
          · exact (kmd_names2 ha (by omega) z1).sub sa
          · exact (kmd_names2 hb (by omega) z1).sub sb
        · rw [if_neg q] at le hz
          obtain ⟨m, rfl⟩ : ∃ k, m = k + 2 := ⟨m - 2, by omega⟩
          rw [ms_row, ms_row, ms_row] at hz
          rcases List.mem_append.mp (show z ∈ ((ms m (kmd n a h)).2.2 ++ (ms m b).2.2) ++ ((ms m a).2.2 ++ (ms m (kmd n b h)).2.2) from hz) with z1 | z1
          · rcases List.mem_append.mp z1 with z2 | z2
            · exact (kmd_names2 ha (by omega) z2).sub sa
            · rw [ms_fuel hb (by omega)] at z2
              exact .inl (sb _ z2)
          · rcases List.mem_append.mp z1 with z2 | z2
            · rw [ms_fuel ha (by omega)] at z2
              exact .inl (sa _ z2)
            · exact (kmd_names2 hb (by omega) z2).sub sb
end Toy
set_option Elab.async false
set_option linter.all false
set_option maxRecDepth 100000
set_option maxHeartbeats 1000000
namespace Toy
open PySem L2 PyProof.Rows
/-! ### books by holes: levels -/
theorem kmd_fuel {h : Ho} : ∀ {n : Nat} {d : PyData} {m : Nat}, fB n d = true → n ≤ m → kmd m d h = kmd n d h
  | 0, _, _, f, _ => nomatch f
  | n + 1, d, m, f, le => by
    obtain ⟨m, rfl⟩ : ∃ k, m = k + 1 := ⟨m - 1, by omega⟩
    by_cases e : PyData.eqv d (hoD h) = true
    · rw [kmd_hol _ _ _ e, kmd_hol _ _ _ e]
    · rcases fB_cases f with ⟨w, rfl, _⟩ | ⟨w, x, rfl, _, _⟩ | ⟨n', w, a, b, en, rfl, _, ha, hb⟩
      · rw [kmd_one _ _ _ e, kmd_one _ _ _ e]
      · rw [kmd_nam _ _ _ _ e, kmd_nam _ _ _ _ e]
      · have en' : n = n' := by omega
        subst en'
        rw [kmd_row _ _ _ _ _ e, kmd_row _ _ _ _ _ e, kmd_fuel ha (by omega), kmd_fuel hb (by omega)]
theorem fB_deep : ∀ {n : Nat} {d : PyData}, fB n d = true → (ms n d).1 ≤ n
  | 0, _, f => nomatch f
  | n + 1, d, f => by
    rcases fB_cases f with ⟨w, rfl, _⟩ | ⟨w, x, rfl, _, _⟩ | ⟨n', w, a, b, en, rfl, _, ha, hb⟩
    · show 1 ≤ n + 1
      omega
    · show 1 ≤ n + 1
      omega
    · have en' : n = n' := by omega
      subst en'
      have x := fB_deep ha
      have y := fB_deep hb
      rw [ms_row]
      show max _ _ + 1 ≤ _
      omega
theorem fB_nm : ∀ {n : Nat} {d : PyData}, fB n d = true → ∀ x ∈ (ms n d).2.2, nmB (.str x) = true
  | 0, _, f, _, _ => nomatch f
  | n + 1, d, f, z, hz => by
    rcases fB_cases f with ⟨w, rfl, _⟩ | ⟨w, x, rfl, _, hx⟩ | ⟨n', w, a, b, en, rfl, _, ha, hb⟩
    · cases (show z ∈ ([] : List Str) from hz)
    · rw [List.mem_singleton.mp (show z ∈ [x] from hz)]
      exact hx
    · have en' : n = n' := by omega
      subst en'
      rw [ms_row] at hz
      rcases List.mem_append.mp (show z ∈ (ms n a).2.2 ++ (ms n b).2.2 from hz) with m | m
      · exact fB_nm ha z m
      · exact fB_nm hb z m
theorem nm_len {x : Str} (h : nmB (.str x) = true) : x.length ≤ 60 := by
  have h' : (decide (x.length ≤ 60) && namL (Txt.split x quo)) = true := h
  rw [Bool.and_eq_true, decide_eq_true_eq] at h'
  exact h'.1
theorem txt_str {x : Str} {n : Nat} (h : txtOk x n) (hn : n ≤ 2000) : txtB (.str x) = true := by
  show (PyData.strOk x && decide (x.length ≤ 2000)) = true
  rw [h.1, decide_eq_true (by have := h.2; omega)]
  rfl
theorem how_ok {h : Ho} (k : HoW h) : hoOk h := by
  cases h with
  | th => exact ⟨by decide +kernel, by decide +kernel⟩
  | nm y => exact ⟨k.2.2, by have := k.2.1; show y.length ≤ 60; omega⟩
theorem hol_txt {h : Ho} (k : HoW h) : txtB (holD h) = true := by
  cases h with
  | th => decide +kernel
  | nm y =>
    have t := txt_str (calD_ok (x := y) (n := 60) (how_ok k) (how_ok k)) (by omega)
    show (txtB (.str "either") && ((txtB (.str "unit") && true) && ((txtB (.str "name") && (txtB (.str (calD y (.nm y))) && true)) && true))) = true
    rw [t]
    decide +kernel
theorem kmd_txt {h : Ho} (k : HoW h) : ∀ {n : Nat} {d : PyData}, fB n d = true → txtB d = true → txtB (kmd n d h) = true
  | 0, _, f, _ => nomatch f
  | n + 1, d, f, t => by
    by_cases e : PyData.eqv d (hoD h) = true
    · rw [kmd_hol _ _ _ e]
      exact hol_txt k
    · rcases fB_cases f with ⟨w, rfl, hw⟩ | ⟨w, x, rfl, hw, hx⟩ | ⟨n', w, a, b, en, rfl, hw, ha, hb⟩
      · rw [kmd_one _ _ _ e]
        decide +kernel
      · rw [kmd_nam _ _ _ _ e]
        have tt : (txtB (.str w) && (txtB (.str x) && true)) = true := t
        simp only [Bool.and_eq_true] at tt
        have tx : (PyData.strOk x && decide (x.length ≤ 2000)) = true := tt.2.1
        rw [Bool.and_eq_true] at tx
        have t2 := txt_str (calD_ok (x := x) (n := 60) ⟨tx.1, nm_len hx⟩ (how_ok k)) (by omega)
        show (txtB (.str "name") && (txtB (.str (calD x h)) && true)) = true
        rw [t2]
        decide +kernel
      · have en' : n = n' := by omega
        subst en'
        have tt : (txtB (.str w) && (txtB a && (txtB b && true))) = true := t
        simp only [Bool.and_eq_true] at tt
        have ka := kmd_txt k ha tt.2.1
        have kb := kmd_txt k hb tt.2.2.1
        rw [kmd_row _ _ _ _ _ e]
        by_cases q : wE w = true
        · rw [if_pos q]
          show (txtB (.str "either") && (txtB (kmd n a h) && (txtB (kmd n b h) && true))) = true
          rw [ka, kb]
          decide +kernel
        · rw [if_neg q]
          show (txtB (.str "either") && ((txtB (.str "pair") && (txtB (kmd n a h) && (txtB b && true))) && ((txtB (.str "pair") && (txtB a && (txtB (kmd n b h) && true))) && true))) = true
          rw [ka, kb, tt.2.1, tt.2.2.1]
          decide +kernel
/-- so far by holes: form, pairs on a way, parts -/
structure Lvl (j : Nat) (k : PyData) : Prop where
  j3 : j ≤ 3
  f : fB (6 + 6 * j) k = true
  p : pd (6 + 6 * j) k ≤ 5
  m : (ms (6 + 6 * j) k).2.1 ≤ 700
theorem Lvl.form {j : Nat} {k : PyData} (l : Lvl j k) : ∃ n, n ≤ 24 ∧ fB n k = true ∧ (ms n k).2.1 ≤ 700 := ⟨_, by have := l.j3; omega, l.f, l.m⟩
theorem Lvl.low {j : Nat} {k : PyData} (l : Lvl j k) (hj : j ≤ 2) : ∃ n, n ≤ 18 ∧ fB n k = true ∧ pd n k ≤ 5 := ⟨_, by omega, l.f, l.p⟩
theorem Lvl.kd {j m : Nat} {k : PyData} (l : Lvl j k) (hm : 30 ≤ m) : kdB m k = true := by
  obtain ⟨n, hn, f, p⟩ := l.form
  have d := fB_deep f
  unfold kdB
  rw [fB_fuel f (by omega : n ≤ m), ms_fuel f (by omega : n ≤ m), decide_eq_true (by omega), decide_eq_true (by omega)]
  rfl
theorem Lvl.up {j : Nat} {k : PyData} (l : Lvl j k) (hj : j ≤ 2) : Lvl (j + 1) k :=
  ⟨by omega, fB_fuel l.f (by omega), by rw [pd_fuel l.f (by omega)]; exact l.p, by rw [ms_fuel l.f (by omega)]; exact l.m⟩
theorem Lvl.by {j : Nat} {k : PyData} {h : Ho} (l : Lvl j k) (hj : j ≤ 2) (ho : ∀ z, hoOwn h z → nmB (.str z) = true) (hn : ∀ {n : Nat}, fB n k = true → ∀ x ∈ (ms n k).2.2, nmB (.str (calD x h)) = true) (hp : (ms 30 (kmd 30 k h)).2.1 ≤ 700) : Lvl (j + 1) (kmd 30 k h) := by
  have e := kmd_fuel (h := h) l.f (m := 30) (by omega)
  have q := l.p
  have ff : fB (6 + 6 * (j + 1)) (kmd (6 + 6 * j) k h) = true := kmd_form2 ho l.f (by omega) (hn l.f)
  rw [e] at hp ⊢
  refine ⟨by omega, ff, Nat.le_trans (pd_kmd l.f (by omega)) q, ?_⟩
  rw [ms_fuel ff (by omega)] at hp
  exact hp
theorem kt_lvl {ok : Str → Prop} {k : PyData} (ho : ∀ x, ok x → nmB (.str x) = true) (t : KT ok 6 k) : Lvl 0 k := by
  obtain ⟨f, _, p, _⟩ := kt_facts ho t (m := 6) (by decide)
  have e : (2 : Nat) ^ 6 = 64 := by decide
  have q := pd_le f
  exact ⟨by decide, f, by show pd 6 k ≤ 5; omega, by show (ms 6 k).2.1 ≤ 700; omega⟩
end Toy
set_option Elab.async false
set_option linter.all false
set_option maxRecDepth 100000
set_option maxHeartbeats 1000000
namespace Toy
open PySem L2 PyProof.Rows
/-! ### a book by a hole is one -/
structure BookL (j : Nat) (ds : List PyData) : Prop where
  rows : ∀ r ∈ ds, ∃ y k, r = .tuple [.str y, k] ∧ txtOk y (8 + 9 * j) ∧ Lvl j k ∧ txtB k = true
  up : ds.Pairwise fun r s => lessS (rowN r) (rowN s) = true
  tb : ∀ m, 30 ≤ m → tbB m (.tuple ds) = true
  ne : ds ≠ []
  few : ds.length ≤ 80
structure ByH (ds ds' : List PyData) (h : Ho) : Prop where
  rows : ∀ r ∈ ds', ∃ x v, r = .tuple [.str x, v] ∧ (lookB (bkOf (.tuple ds)) x = some v ∨ ∃ y k, lookB (bkOf (.tuple ds)) y = some k ∧ x = calD y h ∧ v = kmd 30 k h)
  old : ∀ y k, lookB (bkOf (.tuple ds)) y = some k → lookB (bkOf (.tuple ds')) y = some k
  new : ∀ y k, lookB (bkOf (.tuple ds)) y = some k → lookB (bkOf (.tuple ds')) (calD y h) = some (kmd 30 k h)
  up : ds'.Pairwise fun r s => lessS (rowN r) (rowN s) = true
  ne : ds' ≠ []
  few : ds'.length ≤ 2 * ds.length
theorem tb_rows {m : Nat} {ds : List PyData} (h : tbB m (.tuple ds) = true) : ∀ r ∈ ds, ∃ y k, r = .tuple [.str y, k] ∧ nmB (.str y) = true ∧ knB m (bkOf (.tuple ds)) k = true ∧ ruB m (bkOf (.tuple ds)) y k = true := by
  unfold tbB at h
  rw [Bool.and_eq_true, Bool.and_eq_true, List.all_eq_true, List.all_eq_true] at h
  obtain ⟨h1, h2, h3⟩ := h
  have h1' : (decide (ds.length ≤ 80) && upB m "" ds) = true := h1
  rw [Bool.and_eq_true] at h1'
  obtain ⟨u, _⟩ := up_rows h1'.2
  intro r mr
  obtain ⟨y, k, rfl, a, _, _⟩ := u r mr
  have mp : (y, k) ∈ bkOf (.tuple ds) := List.mem_map.mpr ⟨_, mr, rfl⟩
  exact ⟨y, k, rfl, a, h2 _ mp, h3 _ mp⟩
theorem kh_mono {m : Nat} (h1 : 1 ≤ m) {bk bk' : List (Str × PyData)} (s : ∀ x, (lookB bk x).isSome = true → (lookB bk' x).isSome = true) {d : PyData} (h : khB m bk d = true) : khB m bk' d = true := by
  unfold khB knB at h ⊢
  rw [Bool.and_eq_true, Bool.and_eq_true, List.all_eq_true] at h
  rw [Bool.and_eq_true, Bool.and_eq_true, List.all_eq_true]
  exact ⟨⟨h.1.1, fun x hx => s x (h.1.2 x hx)⟩, h.2⟩
theorem kn_mono {m : Nat} {bk bk' : List (Str × PyData)} (s : ∀ x, (lookB bk x).isSome = true → (lookB bk' x).isSome = true) {d : PyData} (h : knB m bk d = true) : knB m bk' d = true := by
  unfold knB at h ⊢
  rw [Bool.and_eq_true, List.all_eq_true] at h ⊢
  exact ⟨h.1, fun x hx => s x (h.2 x hx)⟩
theorem names_fuel {n m : Nat} {k : PyData} (f : fB n k = true) (g : fB m k = true) : ms m k = ms n k := by
  rcases Nat.le_total n m with z | z
  · exact ms_fuel f z
  · exact (ms_fuel g z).symm
theorem closure {j : Nat} {ds ds' : List PyData} {h : Ho} (b : BookL j ds) (hj : j ≤ 2) (hp : ∀ r ∈ ds', (ms 30 (rowK r)).2.1 ≤ 700) (hl : ds'.length ≤ 80) (k : HoW h) (hin : ∀ y0, h = .nm y0 → (lookB (bkOf (.tuple ds)) y0).isSome = true) (a : ByH ds ds' h) : BookL (j + 1) ds' := by
  -- what is known of a name of the book
  have info : ∀ m, 30 ≤ m → ∀ y c, lookB (bkOf (.tuple ds)) y = some c → txtOk y (8 + 9 * j) ∧ nmB (.str y) = true ∧ Lvl j c ∧ txtB c = true ∧ knB m (bkOf (.tuple ds)) c = true ∧ ruB m (bkOf (.tuple ds)) y c = true := fun m hm y c l => by
    obtain ⟨p, mp, e1, e2⟩ := look_mem l
    obtain ⟨r, mr, rfl⟩ := List.mem_map.mp mp
    obtain ⟨y1, k1, rfl, t1, l1, x1⟩ := b.rows r mr
    obtain ⟨y2, k2, e, n2, kn2, ru2⟩ := tb_rows (b.tb m hm) _ mr
    injection e with e
    injection e with e3 e4
    injection e3 with e3
    injection e4 with e4
    subst e3 e4
    have e1' : y1 = y := e1
    have e2' : k1 = c := e2
    subst e1' e2'
    exact ⟨t1, n2, l1, x1, kn2, ru2⟩
  have some_of : ∀ y, (lookB (bkOf (.tuple ds)) y).isSome = true → ∃ c, lookB (bkOf (.tuple ds)) y = some c := fun y z => Option.isSome_iff_exists.mp z
  have mono : ∀ x, (lookB (bkOf (.tuple ds)) x).isSome = true → (lookB (bkOf (.tuple ds')) x).isSome = true := fun x hx => by
    obtain ⟨c, hc⟩ := some_of x hx
    rw [a.old x c hc]
    rfl
  have cal : ∀ y c, lookB (bkOf (.tuple ds)) y = some c → nmB (.str (calD y h)) = true := fun y c l => by
    obtain ⟨t, n, _⟩ := info 30 (by decide) y c l
    exact calD_name n k (by have := t.2; omega)
  have own : ∀ z, hoOwn h z → ∃ y0 c, h = .nm y0 ∧ lookB (bkOf (.tuple ds)) y0 = some c ∧ z = calD y0 h := fun z hz => by
    cases h with
    | th => exact hz.elim
    | nm y0 =>
      obtain ⟨c, hc⟩ := some_of y0 (hin y0 rfl)
      exact ⟨y0, c, rfl, hc, hz⟩
  have knm : ∀ {c : PyData}, knB 30 (bkOf (.tuple ds)) c = true → ∀ {n : Nat}, fB n c = true → ∀ x ∈ (ms n c).2.2, ∃ c', lookB (bkOf (.tuple ds)) x = some c' := fun {c} hc {n} f x hx => by
    have g := kn_form hc
    unfold knB at hc
    rw [Bool.and_eq_true, List.all_eq_true] at hc
    rw [names_fuel g f] at hx
    exact some_of x (hc.2 x hx)
  have byl : ∀ y c, lookB (bkOf (.tuple ds)) y = some c → (ms 30 (kmd 30 c h)).2.1 ≤ 700 → Lvl (j + 1) (kmd 30 c h) := fun y c l hpc => by
    obtain ⟨t, n, lv, tx, kn, ru⟩ := info 30 (by decide) y c l
    refine lv.by hj (fun z hz => ?_) (fun {n} f x hx => ?_) ?_
    · obtain ⟨y0, c0, _, l0, rfl⟩ := own z hz
      exact cal y0 c0 l0
    · obtain ⟨c', l'⟩ := knm kn f x hx
      exact cal x c' l'
    · exact hpc
  refine ⟨fun r mr => ?_, a.up, fun m hm => ?_, a.ne, ?_⟩
  · obtain ⟨x, v, rfl, o | ⟨y, c, l, rfl, rfl⟩⟩ := a.rows r mr
    · obtain ⟨t, n, lv, tx, kn, ru⟩ := info 30 (by decide) x v o
      exact ⟨x, v, rfl, txt_up t (by omega), lv.up hj, tx⟩
    · obtain ⟨t, n, lv, tx, kn, ru⟩ := info 30 (by decide) y c l
      refine ⟨_, _, rfl, ?_, byl y c l (hp _ mr), ?_⟩
      · have h8 : txtOk (hoT h) 8 := ⟨(how_ok k).1, how_len k⟩
        exact txt_up (txt_app (txt_app t quo_ok) h8) (by omega)
      · obtain ⟨n', hn', f', _⟩ := lv.form
        rw [kmd_fuel f' (by omega)]
        exact kmd_txt k f' tx
  · refine tb_of hl (fun r mr => ?_) a.up
    · obtain ⟨x, v, rfl, o | ⟨y, c, l, rfl, rfl⟩⟩ := a.rows r mr
      · obtain ⟨t, n, lv, tx, kn, ru⟩ := info m hm x v o
        refine ⟨x, v, rfl, n, kn_mono mono kn, ?_⟩
        unfold ruB at ru ⊢
        cases hw : wrB x with
        | true => rfl
        | false =>
          rw [hw, Bool.false_or] at ru
          rw [Bool.false_or]
          cases hl : lookB (bkOf (.tuple ds)) (stemOf x) with
          | none => rw [hl] at ru; cases ru
          | some c =>
            rw [hl] at ru
            rw [a.old _ _ hl]
            have ru' : (khB m (bkOf (.tuple ds)) (hoD (hoOf (lastOf x))) && PyData.eqv v (kmd 30 c (hoOf (lastOf x)))) = true := ru
            rw [Bool.and_eq_true] at ru'
            show (khB m (bkOf (.tuple ds')) (hoD (hoOf (lastOf x))) && PyData.eqv v (kmd 30 c (hoOf (lastOf x)))) = true
            rw [kh_mono (by omega) mono ru'.1, ru'.2]
            rfl
      · obtain ⟨t, n, lv, tx, kn, ru⟩ := info m hm y c l
        obtain ⟨_, _, _, _, kn30, _⟩ := info 30 (by decide) y c l
        have lv' := byl y c l (hp _ mr)
        refine ⟨_, _, rfl, cal y c l, ?_, ?_⟩
        · unfold knB
          rw [lv'.kd hm, Bool.true_and, List.all_eq_true]
          intro z hz
          obtain ⟨n', hn', f', p'⟩ := lv.low hj
          rw [kmd_fuel f' (by omega)] at hz
          rcases kmd_names2 f' (by omega) hz with o | ⟨x', hx', rfl⟩ | o
          · obtain ⟨c', l'⟩ := knm kn30 f' z o
            rw [a.old z c' l']
            rfl
          · obtain ⟨c', l'⟩ := knm kn30 f' x' hx'
            rw [a.new x' c' l']
            rfl
          · obtain ⟨y0, c0, _, l0, rfl⟩ := own z o
            rw [a.new y0 c0 l0]
            rfl
        · obtain ⟨es, el⟩ := calD_stem (y := y) (how_tick k)
          unfold ruB
          rw [calD_wr, Bool.false_or, es, el, how_of k, a.old y c l]
          obtain ⟨n', hn', f', _⟩ := lv.form
          have st := kmd_st 30 c h (fB_fuel f' (by omega)) tx (how_ok k)
          show (khB m (bkOf (.tuple ds')) (hoD h) && PyData.eqv (kmd 30 c h) (kmd 30 c h)) = true
          rw [(eqv_st _ _ st st).mpr rfl, Bool.and_true]
          cases h with
          | th => exact kh_thing (by omega) _
          | nm y0 => rw [kh_name (by omega) _ k.1 (by have := k.2.1; omega)]; exact mono y0 (hin y0 rfl)
  · exact hl
end Toy
set_option Elab.async false
set_option linter.all false
set_option maxRecDepth 100000
set_option maxHeartbeats 1000000
namespace Toy
open PySem L2 PyProof.Rows
theorem bookD_L {ns : List Str} {ds : List PyData} (b : BookD ns ds) : BookL 0 ds := by
  have hn : ∀ x, x ∈ ns → nmB (.str x) = true := fun x hx => by
    rw [← b.names] at hx
    obtain ⟨r, mr, rfl⟩ := List.mem_map.mp hx
    obtain ⟨y, k, rfl, hw, hy, _⟩ := b.rows r mr
    have hy8 : y.length ≤ 8 := hy.2
    show nmB (.str y) = true
    exact wr_name hw (by omega)
  have hlen : ds.length = ns.length := by rw [← b.names, List.length_map]
  refine ⟨fun r mr => ?_, ?_, fun m hm => bookD_ok hm b, fun z => ?_, ?_⟩
  · obtain ⟨y, k, rfl, hw, hy, t, g⟩ := b.rows r mr
    exact ⟨y, k, rfl, hy, kt_lvl hn t, gdB_txt (by decide) k g.g⟩
  · have u := b.up
    rw [← b.names, List.pairwise_map] at u
    exact u
  · subst z
    exact b.ne b.names.symm
  · have := b.few
    omega
/-- what may stand at a name of the book by the hole -/
def ByP (ds : List PyData) (h : Ho) (x : Str) (v : PyData) : Prop := lookB (bkOf (.tuple ds)) x = some v ∨ ∃ y k, lookB (bkOf (.tuple ds)) y = some k ∧ x = calD y h ∧ v = kmd 30 k h
theorem calD_inj {y y' : Str} {h : Ho} (k : HoW h) (e : calD y h = calD y' h) : y = y' := by
  have a := (calD_stem (y := y) (how_tick k)).1
  have b := (calD_stem (y := y') (how_tick k)).1
  rw [← a, ← b, e]
/-- a name by the hole that the book has stands for the kind by the hole -/
theorem by_old {j : Nat} {ds : List PyData} {h : Ho} (b : BookL j ds) (k : HoW h) {y : Str} {v c : PyData} (hx : lookB (bkOf (.tuple ds)) (calD y h) = some v) (hy : lookB (bkOf (.tuple ds)) y = some c) : v = kmd 30 c h := by
  have row : ∀ {x : Str} {w : PyData}, lookB (bkOf (.tuple ds)) x = some w → Lvl j w ∧ txtB w = true ∧ ruB 30 (bkOf (.tuple ds)) x w = true := fun {x w} l => by
    obtain ⟨p, mp, e1, e2⟩ := look_mem l
    obtain ⟨r, mr, rfl⟩ := List.mem_map.mp mp
    obtain ⟨y1, k1, rfl, t1, l1, x1⟩ := b.rows r mr
    obtain ⟨y2, k2, e, n2, kn2, ru2⟩ := tb_rows (b.tb 30 (by decide)) _ mr
    injection e with e
    injection e with e3 e4
    injection e3 with e3
    injection e4 with e4
    subst e3 e4
    have e1' : y1 = x := e1
    have e2' : k1 = w := e2
    subst e1' e2'
    exact ⟨l1, x1, ru2⟩
  obtain ⟨lv, tv, ru⟩ := row hx
  obtain ⟨lc, tc, _⟩ := row hy
  obtain ⟨es, el⟩ := calD_stem (y := y) (how_tick k)
  unfold ruB at ru
  rw [calD_wr, Bool.false_or, es, el, how_of k, hy] at ru
  have ru' : (khB 30 (bkOf (.tuple ds)) (hoD h) && PyData.eqv v (kmd 30 c h)) = true := ru
  rw [Bool.and_eq_true] at ru'
  obtain ⟨n1, h1, f1, _⟩ := lv.form
  obtain ⟨n2, h2, f2, _⟩ := lc.form
  exact (eqv_st _ _ (fB_st _ _ f1 tv) (kmd_st 30 c h (fB_fuel f2 (by omega)) tc (how_ok k))).mp ru'.2
theorem byP_one {j : Nat} {ds : List PyData} {h : Ho} (b : BookL j ds) (k : HoW h) {x : Str} {v w : PyData} (p : ByP ds h x v) (q : ByP ds h x w) : v = w := by
  rcases p with p | ⟨y, c, ly, rfl, rfl⟩
  · rcases q with q | ⟨y, c, ly, rfl, rfl⟩
    · rw [p] at q
      exact Option.some.inj q
    · exact by_old b k p ly
  · rcases q with q | ⟨y', c', ly', e, rfl⟩
    · exact (by_old b k q ly).symm
    · have ey := calD_inj k e
      subst ey
      rw [ly] at ly'
      cases ly'
      rfl
/-! ### the law's dict: the book's names and those by the hole -/
def putB (l : List (Str × PyData)) (x : Str) (v : PyData) : List (Str × PyData) := if (l.any fun p => decide (p.1 = x)) = true then l.map (fun p => if p.1 = x then (p.1, v) else p) else l ++ [(x, v)]
theorem look_cons (p : Str × PyData) (l : List (Str × PyData)) (z : Str) : lookB (p :: l) z = if p.1 = z then some p.2 else lookB l z := by
  unfold lookB
  rw [List.find?_cons]
  by_cases e : p.1 = z
  · rw [decide_eq_true e, if_pos e]
    rfl
  · rw [decide_eq_false e, if_neg e]
theorem look_map (x : Str) (v : PyData) (z : Str) : ∀ l : List (Str × PyData), lookB (l.map fun p => if p.1 = x then (p.1, v) else p) z = if z = x then (if (l.any fun p => decide (p.1 = x)) = true then some v else none) else lookB l z
  | [] => by
    show none = _
    by_cases e : z = x
    · rw [if_pos e]
      rfl
    · rw [if_neg e]
      rfl
  | p :: l => by
    rw [List.map_cons, look_cons, look_map x v z l, look_cons, List.any_cons]
    by_cases e : p.1 = x
    · rw [if_pos e, decide_eq_true e, Bool.true_or, if_pos rfl]
      show (if p.1 = z then some v else _) = _
      by_cases ez : z = x
      · rw [if_pos ez, if_pos (by rw [e, ez]), if_pos ez]
      · have n : ¬ p.1 = z := fun q => ez (by rw [← q, e])
        rw [if_neg ez, if_neg n, if_neg n, if_neg ez]
    · rw [if_neg e, decide_eq_false e, Bool.false_or]
      by_cases ez : z = x
      · have n : ¬ p.1 = z := fun q => e (by rw [q, ez])
        rw [if_pos ez, if_neg n, if_pos ez]
      · rw [if_neg ez, if_neg ez]
theorem look_snoc (x : Str) (v : PyData) (z : Str) : ∀ l : List (Str × PyData), (l.any fun p => decide (p.1 = x)) = false → lookB (l ++ [(x, v)]) z = if z = x then some v else lookB l z
  | [], _ => by
    rw [List.nil_append, look_cons]
    by_cases e : z = x
    · rw [if_pos e, if_pos e.symm]
    · rw [if_neg e, if_neg (fun q => e q.symm)]
  | p :: l, h => by
    rw [List.any_cons, Bool.or_eq_false_iff] at h
    have np : ¬ p.1 = x := of_decide_eq_false h.1
    rw [List.cons_append, look_cons, look_snoc x v z l h.2, look_cons]
    by_cases e : z = x
    · have n : ¬ p.1 = z := fun q => np (by rw [q, e])
      rw [if_neg n, if_pos e, if_pos e]
    · rw [if_neg e, if_neg e]
theorem look_put (l : List (Str × PyData)) (x : Str) (v : PyData) (z : Str) : lookB (putB l x v) z = if z = x then some v else lookB l z := by
  unfold putB
  cases h : l.any fun p => decide (p.1 = x) with
  | true => rw [if_pos rfl, look_map, h, if_pos rfl]
  | false => rw [if_neg Bool.false_ne_true, look_snoc _ _ _ _ h]
def foundB (h : Ho) : List (Str × PyData) → List (Str × PyData) → List (Str × PyData)
  | [], acc => acc
  | (y, k) :: r, acc => foundB h r (putB (putB acc y k) (calD y h) (kmd 30 k h))
structure FInv (ds : List PyData) (h : Ho) (pre acc : List (Str × PyData)) : Prop where
  a : ∀ x v, lookB acc x = some v → ByP ds h x v
  b : ∀ p ∈ pre, lookB acc p.1 = some p.2 ∧ lookB acc (calD p.1 h) = some (kmd 30 p.2 h)
theorem put_keep {ds : List PyData} {h : Ho} {acc : List (Str × PyData)} (u : ∀ {x v w}, ByP ds h x v → ByP ds h x w → v = w) (a : ∀ x v, lookB acc x = some v → ByP ds h x v) {x : Str} {v : PyData} (p : ByP ds h x v) :
    (∀ z w, lookB (putB acc x v) z = some w → ByP ds h z w) ∧ (∀ z w, lookB acc z = some w → lookB (putB acc x v) z = some w) ∧ lookB (putB acc x v) x = some v := by
  refine ⟨fun z w hz => ?_, fun z w hz => ?_, by rw [look_put, if_pos rfl]⟩
  · rw [look_put] at hz
    by_cases e : z = x
    · rw [if_pos e] at hz
      cases hz
      rw [e]
      exact p
    · rw [if_neg e] at hz
      exact a z w hz
  · rw [look_put]
    by_cases e : z = x
    · subst e
      rw [if_pos rfl, u p (a z w hz)]
    · rw [if_neg e]
      exact hz
theorem found_inv {ds : List PyData} {h : Ho} (u : ∀ {x v w}, ByP ds h x v → ByP ds h x w → v = w) (dl : ∀ p ∈ bkOf (.tuple ds), lookB (bkOf (.tuple ds)) p.1 = some p.2) :
    ∀ (rest pre acc : List (Str × PyData)), FInv ds h pre acc → (∀ p ∈ rest, p ∈ bkOf (.tuple ds)) → FInv ds h (pre ++ rest) (foundB h rest acc)
  | [], pre, acc, i, _ => by rw [List.append_nil]; exact i
  | (y, k) :: rest, pre, acc, i, m => by
    have ly := dl _ (m _ List.mem_cons_self)
    obtain ⟨a1, k1, s1⟩ := put_keep u i.a (x := y) (v := k) (.inl ly)
    obtain ⟨a2, k2, s2⟩ := put_keep u a1 (x := calD y h) (v := kmd 30 k h) (.inr ⟨y, k, ly, rfl, rfl⟩)
    have i' : FInv ds h (pre ++ [(y, k)]) (putB (putB acc y k) (calD y h) (kmd 30 k h)) := ⟨a2, fun p mp => by
      rcases List.mem_append.mp mp with mp | mp
      · obtain ⟨b1, b2⟩ := i.b p mp
        exact ⟨k2 _ _ (k1 _ _ b1), k2 _ _ (k1 _ _ b2)⟩
      · rw [List.mem_singleton.mp mp]
        exact ⟨k2 _ _ s1, s2⟩⟩
    have := found_inv u dl rest (pre ++ [(y, k)]) _ i' fun p mp => m p (List.mem_cons_of_mem _ mp)
    rw [List.append_assoc] at this
    exact this
end Toy
set_option Elab.async false
set_option linter.all false
set_option maxRecDepth 100000
set_option maxHeartbeats 1000000
namespace Toy
open PySem L2 PyProof.Rows
/-! ### the dict beside what it holds -/
theorem foundB_snoc (h : Ho) (p : Str × PyData) : ∀ (l acc : List (Str × PyData)), foundB h (l ++ [p]) acc = putB (putB (foundB h l acc) p.1 p.2) (calD p.1 h) (kmd 30 p.2 h)
  | [], acc => rfl
  | (y, k) :: l, acc => foundB_snoc h p l _
theorem paired_any {K : PySem.W.Frag} {H : Hp} {x : Str} : ∀ {kvs : List (Key × V)} {l : List (Str × PyData)}, Paired (TabR K H) kvs l → (kvs.any fun kv => decide (kv.1 = Sum.inr x)) = l.any fun p => decide (p.1 = x)
  | _, _, .nil => rfl
  | _, _, .cons (a := kv) (b := p) r t => by
    rw [List.any_cons, List.any_cons, paired_any t]
    congr 1
    rw [r.1]
    by_cases e : p.1 = x
    · rw [decide_eq_true e, decide_eq_true (by rw [e])]
    · rw [decide_eq_false e, decide_eq_false (fun z => e (by injection z))]
theorem paired_map {K : PySem.W.Frag} {H : Hp} {x : Str} {v : V} {d : PyData} (D : Dq K H v d) : ∀ {kvs : List (Key × V)} {l : List (Str × PyData)}, Paired (TabR K H) kvs l →
    Paired (TabR K H) (kvs.map fun kv => if kv.1 = Sum.inr x then (kv.1, v) else kv) (l.map fun p => if p.1 = x then (p.1, d) else p)
  | _, _, .nil => .nil
  | _, _, .cons (a := kv) (b := p) r t => by
    refine .cons ?_ (paired_map D t)
    show TabR K H (if kv.1 = Sum.inr x then (kv.1, v) else kv) (if p.1 = x then (p.1, d) else p)
    by_cases e : p.1 = x
    · rw [if_pos e, if_pos (by rw [r.1, e])]
      exact ⟨r.1, D⟩
    · rw [if_neg e, if_neg (fun z => e (by rw [r.1] at z; injection z))]
      exact r
theorem paired_snoc {α β : Type} {R : α → β → Prop} {a : α} {b : β} (r : R a b) : ∀ {xs : List α} {ys : List β}, Paired R xs ys → Paired R (xs ++ [a]) (ys ++ [b])
  | _, _, .nil => .cons r .nil
  | _, _, .cons h t => .cons h (paired_snoc r t)
theorem paired_put {K : PySem.W.Frag} {H : Hp} {kvs : List (Key × V)} {l : List (Str × PyData)} {x : Str} {v : V} {d : PyData} (t : Paired (TabR K H) kvs l) (D : Dq K H v d) : Paired (TabR K H) (putK kvs (.inr x) v) (putB l x d) := by
  unfold putK putB
  rw [paired_any t]
  cases l.any fun p => decide (p.1 = x) with
  | true =>
    rw [if_pos rfl, if_pos rfl]
    exact paired_map D t
  | false =>
    rw [if_neg Bool.false_ne_true, if_neg Bool.false_ne_true]
    exact paired_snoc ⟨rfl, D⟩ t
theorem put_names (l : List (Str × PyData)) (x : Str) (v : PyData) : (putB l x v).map (·.1) = if (l.any fun p => decide (p.1 = x)) = true then l.map (·.1) else l.map (·.1) ++ [x] := by
  unfold putB
  cases l.any fun p => decide (p.1 = x) with
  | true =>
    rw [if_pos rfl, if_pos rfl, List.map_map]
    refine List.map_congr_left fun p _ => ?_
    show (if p.1 = x then (p.1, v) else p).1 = p.1
    by_cases e : p.1 = x
    · rw [if_pos e]
    · rw [if_neg e]
  | false =>
    rw [if_neg Bool.false_ne_true, if_neg Bool.false_ne_true, List.map_append]
    rfl
theorem put_nodup {l : List (Str × PyData)} (n : (l.map (·.1)).Nodup) (x : Str) (v : PyData) : ((putB l x v).map (·.1)).Nodup := by
  rw [put_names]
  cases h : l.any fun p => decide (p.1 = x) with
  | true =>
    rw [if_pos rfl]
    exact n
  | false =>
    rw [if_neg Bool.false_ne_true]
    refine List.nodup_append.mpr ⟨n, by simp, fun a ma b mb => ?_⟩
    rw [List.mem_singleton.mp mb]
    intro e
    obtain ⟨p, mp, rfl⟩ := List.mem_map.mp ma
    exact List.any_eq_false.mp h p mp (decide_eq_true e)
theorem put_len (l : List (Str × PyData)) (x : Str) (v : PyData) : (putB l x v).length ≤ l.length + 1 := by
  have e := congrArg List.length (put_names l x v)
  rw [List.length_map] at e
  rw [e]
  split
  · rw [List.length_map]
    omega
  · rw [List.length_append, List.length_map]
    simp
theorem found_facts (h : Ho) : ∀ (l acc : List (Str × PyData)), (acc.map (·.1)).Nodup → ((foundB h l acc).map (·.1)).Nodup ∧ (foundB h l acc).length ≤ acc.length + 2 * l.length
  | [], acc, n => ⟨n, by show acc.length ≤ _; omega⟩
  | (y, k) :: l, acc, n => by
    obtain ⟨a, b⟩ := found_facts h l _ (put_nodup (put_nodup n y k) (calD y h) (kmd 30 k h))
    refine ⟨a, Nat.le_trans b ?_⟩
    have x := put_len (putB acc y k) (calD y h) (kmd 30 k h)
    have z := put_len acc y k
    rw [List.length_cons]
    omega
theorem look_nodup : ∀ {l : List (Str × PyData)} {p : Str × PyData}, (l.map (·.1)).Nodup → p ∈ l → lookB l p.1 = some p.2
  | q :: l, p, n, m => by
    rw [List.map_cons, List.nodup_cons] at n
    rw [look_cons]
    rcases List.mem_cons.mp m with rfl | m
    · rw [if_pos rfl]
    · have ne : ¬ q.1 = p.1 := fun e => n.1 (by rw [e]; exact List.mem_map.mpr ⟨p, m, rfl⟩)
      rw [if_neg ne]
      exact look_nodup n.2 m
end Toy
set_option Elab.async false
set_option linter.all false
set_option maxRecDepth 100000
set_option maxHeartbeats 4000000
namespace Toy
open PySem L2 PyProof.Rows
theorem rising_up : ∀ {l : List Str} {p : Str}, risingS p l = true → StrO.upS (p :: l)
  | [], p, _ => List.pairwise_cons.mpr ⟨fun _ h => (nomatch h), .nil⟩
  | x :: r, p, h => by
    have h' : (!PySem.Spec.ltCps x.cps.toList p.cps.toList && risingS x r) = true := h
    rw [Bool.and_eq_true, ltCps_eq] at h'
    have h1 : ¬ x.cps.toList < p.cps.toList := by simpa using h'.1
    have u := rising_up h'.2
    refine List.pairwise_cons.mpr ⟨fun y my => ?_, u⟩
    rcases List.mem_cons.mp my with rfl | my
    · exact h1
    · have h2 := (List.pairwise_cons.mp u).1 y my
      rw [List.not_lt] at h1 h2 ⊢
      exact List.le_trans h1 h2
theorem sorted_up : ∀ {l : List Str}, sortedS l = true → StrO.upS l
  | [], _ => .nil
  | x :: r, h => rising_up h
def rowF (fb : List (Str × PyData)) (x : Str) : PyData := .tuple [.str x, (lookB fb x).getD .none]
theorem paired_keys {K : PySem.W.Frag} {H : Hp} : ∀ {kvs : List (Key × V)} {l : List (Str × PyData)}, Paired (TabR K H) kvs l → kvs.map (·.1) = (l.map (·.1)).map Sum.inr
  | _, _, .nil => rfl
  | _, _, .cons r t => by
    rw [List.map_cons, List.map_cons, List.map_cons, paired_keys t, r.1]
def spAb (K : PySem.W.Frag) : Sp := fun vs H Q _ => ∃ (wl : Addr) (G : Hp) (v u : V) (ds : List PyData) (j : Nat) (h : Ho), vs = [v, u] ∧ Stt wl G H ∧ Dq K G v (.tuple ds) ∧ BookL j ds ∧ j ≤ 1 ∧ Dq K G u (hoD h) ∧ HoW h ∧ (∀ y0, h = .nm y0 → (lookB (bkOf (.tuple ds)) y0).isSome = true) ∧
  ∀ (v' : V) (H' G' : Hp) (ds' : List PyData), Gr wl G H G' H' → Dq K G' v' (.tuple ds') → BookL (j + 1) ds' → ByH ds ds' h → Q v' H'
section
variable {P : Program} {w : World} {K : PySem.W.Frag} {mg : Str → Option Value} {base : Heap}
end
end Toy
set_option Elab.async false
set_option linter.all false
set_option maxRecDepth 100000
set_option maxHeartbeats 1000000
namespace Toy
open PySem L2 PyProof.Rows
theorem wr_len {y : Str} (h : wrB y = true) : y.length ≤ 8 := by
  unfold wrB at h
  have e : y.cps.toList.length = y.length := Array.length_toList
  cases z : y.cps.toList with
  | nil =>
    rw [z, List.length_nil] at e
    omega
  | cons c r =>
    rw [z] at h
    have h' : (decide (r.length ≤ 7) && (capB c && r.all smB)) = true := h
    rw [Bool.and_eq_true, decide_eq_true_eq] at h'
    rw [z, List.length_cons] at e
    omega
/-- a hole drawn of a book's names is one of it -/
theorem hole_of {j : Nat} {ds : List PyData} {h : Ho} (b : BookL j ds) (hi : HoIn (ds.map rowN) h) : HoW h ∧ ∀ y0, h = .nm y0 → (lookB (bkOf (.tuple ds)) y0).isSome = true := by
  cases h with
  | th => exact ⟨trivial, fun _ e => nomatch e⟩
  | nm y =>
    obtain ⟨my, nt⟩ := hi
    refine ⟨?_, fun y0 e => ?_⟩
    · obtain ⟨r, mr, rfl⟩ := List.mem_map.mp my
      obtain ⟨y1, k1, rfl, t1, _⟩ := b.rows r mr
      obtain ⟨y2, k2, e, n2, _⟩ := tb_rows (b.tb 30 (by decide)) _ mr
      injection e with e
      injection e with e3 _
      injection e3 with e3
      subst e3
      have nt' : (!decide (39 ∈ y1.cps.toList)) = true := nt
      have no : 39 ∉ y1.cps.toList := by simpa using nt'
      have hw : wrB y1 = true := by
        rcases name_ways n2 with ⟨hw, _⟩ | ⟨_, A, B, ex, _⟩
        · exact hw
        · exact absurd (show 39 ∈ y1.cps.toList by rw [ex]; simp) no
      exact ⟨hw, wr_len hw, t1.1⟩
    · injection e with e
      subst e
      refine look_some ?_
      rw [bk_names]
      exact my
end Toy
set_option Elab.async false
set_option linter.all false
set_option maxRecDepth 100000
set_option maxHeartbeats 2000000
namespace Toy
open PySem L2 PyProof.Rows
abbrev sName : Stmt := top 65
/-! ### a name as written, unlike those taken -/
theorem wr_wrX {x : Str} (h : wrB x = true) : wrX x 7 := by
  have h' : wrL x.cps.toList = true := h
  cases e : x.cps.toList with
  | nil => rw [e] at h'; cases h'
  | cons c r =>
    rw [e] at h'
    have h2 : (decide (r.length ≤ 7) && (capB c && r.all smB)) = true := h'
    simp only [Bool.and_eq_true, decide_eq_true_eq] at h2
    exact ⟨c, r, e, h2.2.1, h2.2.2, h2.1⟩
theorem wrX_up {x : Str} {i j : Nat} (h : wrX x i) (hi : i ≤ j) : wrX x j := by
  obtain ⟨c, r, e, h1, h2, h3⟩ := h
  exact ⟨c, r, e, h1, h2, by omega⟩
theorem wrX_ok {x : Str} {i : Nat} (h : wrX x i) : txtOk x (1 + i) := by
  obtain ⟨c, r, e, h1, h2, h3⟩ := h
  have el : x.cps.toList.length = x.length := Array.length_toList
  refine ⟨?_, by rw [← el, e, List.length_cons]; omega⟩
  have a1 : ∀ c ∈ CAPS.cps.toList, PyData.strOk ⟨#[c]⟩ = true := fun c m => (txt_one (x := CAPS) (by decide +kernel) m).1
  have a2 : ∀ c ∈ SMALLS.cps.toList, PyData.strOk ⟨#[c]⟩ = true := fun c m => (txt_one (x := SMALLS) (by decide +kernel) m).1
  have ex : x = ⟨(c :: r).toArray⟩ := str_ext e
  have all : ∀ l : List Nat, (∀ c ∈ l, PyData.strOk ⟨#[c]⟩ = true) → PyData.strOk ⟨l.toArray⟩ = true := fun l => by
    induction l with
    | nil => intro _; decide +kernel
    | cons c l ih =>
      intro hc
      have e2 : (⟨(c :: l).toArray⟩ : Str) = (⟨#[c]⟩ : Str) ++ ⟨l.toArray⟩ := str_ext (by rw [app_cps]; rfl)
      rw [e2]
      exact strOk_app (hc c List.mem_cons_self) (ih fun d m => hc d (List.mem_cons_of_mem _ m))
  rw [ex]
  refine all _ fun d m => ?_
  rcases List.mem_cons.mp m with rfl | m
  · exact a1 _ (of_decide_eq_true h1)
  · exact a2 _ (of_decide_eq_true (List.all_eq_true.mp h2 d m))
theorem wrX_cut {x : Str} (h : wrX x 7) : wrX (cutS x none (some 7)) 6 := by
  obtain ⟨c, r, e, h1, h2, h3⟩ := h
  have el : x.cps.toList.length = x.length := Array.length_toList
  have ec : (cutS x none (some 7)).cps.toList = c :: r.take 6 := by
    unfold cutS
    rw [HT.sIx_none, show HT.sIx x.length x.length (some 7) = min 7 x.length from HT.sIx_nat x.length x.length 7]
    show ((x.cps.toList.drop 0).take (min 7 x.length - 0)) = _
    rw [List.drop_zero, e, Nat.sub_zero]
    have l2 : x.length = r.length + 1 := by rw [← el, e, List.length_cons]
    rw [l2]
    by_cases q : r.length ≤ 6
    · rw [Nat.min_eq_right (by omega), List.take_succ_cons, List.take_of_length_le (Nat.le_refl _), List.take_of_length_le q]
    · rw [Nat.min_eq_left (by omega), List.take_succ_cons]
  refine ⟨c, r.take 6, ec, h1, ?_, by rw [List.length_take]; omega⟩
  exact List.all_eq_true.mpr fun d m => List.all_eq_true.mp h2 d (List.mem_of_mem_take m)
/-- another head -/
def headed (c : Nat) (x : Str) : Str := ⟨#[c]⟩ ++ cutS x (some 1) none
theorem headed_cps (c : Nat) (x : Str) : (headed c x).cps.toList = c :: x.cps.toList.drop 1 := by
  unfold headed
  rw [app_cps, cutS_tail]
  rfl
theorem headed_twice (c d : Nat) (x : Str) : headed c (headed d x) = headed c x := str_ext (by rw [headed_cps, headed_cps, headed_cps]; rfl)
theorem headed_wr {c : Nat} {x : Str} {i : Nat} (h : wrX x i) (hc : capB c = true) : wrX (headed c x) i := by
  obtain ⟨c0, r, e, h1, h2, h3⟩ := h
  exact ⟨c, r, by rw [headed_cps, e]; rfl, hc, h2, h3⟩
theorem headed_ne {c d : Nat} {x y : Str} (h : c ≠ d) : headed c x ≠ headed d y := fun e => by
  have z := congrArg (fun s : Str => s.cps.toList) e
  simp only [headed_cps] at z
  injection z with z
  exact h z
theorem nodup_len {α : Type} [DecidableEq α] : ∀ {l M : List α}, l.Nodup → (∀ x ∈ l, x ∈ M) → l.length ≤ M.length
  | [], _, _, _ => Nat.zero_le _
  | x :: l, M, n, s => by
    obtain ⟨n1, n2⟩ := List.nodup_cons.mp n
    have mx := s x List.mem_cons_self
    have le := nodup_len (M := M.erase x) n2 fun y m => (List.mem_erase_of_ne (fun e => n1 (by rw [← e]; exact m))).mpr (s y (List.mem_cons_of_mem _ m))
    rw [List.length_erase_of_mem mx] at le
    have : 1 ≤ M.length := List.length_pos_of_mem mx
    rw [List.length_cons]
    omega
def HEADS : Str := "ABCDEF"
/-- what is known behind i heads -/
def HInv (xs : List Str) (i : Nat) (x : Str) : Prop := x ∉ xs ∨ ((∀ j c, j + 1 < i → HEADS.cps[j]? = some c → headed c x ∈ xs) ∧ ∀ c, 1 ≤ i → HEADS.cps[i - 1]? = some c → x = headed c x)
theorem hInv_next {xs : List Str} {i : Nat} {x : Str} {c : Nat} (h : HInv xs i x) (m : x ∈ xs) (hc : HEADS.cps[i]? = some c) : HInv xs (i + 1) (headed c x) := by
  rcases h with h | ⟨h1, h2⟩
  · exact absurd m h
  · refine .inr ⟨fun j d hj hd => ?_, fun d _ hd => ?_⟩
    · rw [headed_twice]
      by_cases q : j + 1 < i
      · exact h1 j d q hd
      · have e : j = i - 1 := by omega
        subst e
        rw [← h2 d (by omega) hd]
        exact m
    · rw [Nat.add_sub_cancel, hc] at hd
      cases hd
      rw [headed_twice]
theorem hInv_end {xs : List Str} {x : Str} (h : HInv xs 6 x) (hl : xs.length ≤ 3) : x ∉ xs := by
  rcases h with h | ⟨h1, _⟩
  · exact h
  · exfalso
    have n : ([65, 66, 67, 68] : List Nat).map (fun c => headed c x) |>.Nodup := by
      simp only [List.map_cons, List.map_nil, List.nodup_cons, List.mem_cons, List.not_mem_nil, or_false, not_or, List.nodup_nil, not_false_eq_true, and_true]
      refine ⟨⟨headed_ne (by decide), headed_ne (by decide), headed_ne (by decide)⟩, ⟨headed_ne (by decide), headed_ne (by decide)⟩, headed_ne (by decide)⟩
    have s : ∀ y ∈ ([65, 66, 67, 68] : List Nat).map (fun c => headed c x), y ∈ xs := fun y m => by
      simp only [List.map_cons, List.map_nil, List.mem_cons, List.not_mem_nil, or_false] at m
      rcases m with rfl | rfl | rfl | rfl
      · exact h1 0 65 (by decide) (by decide +kernel)
      · exact h1 1 66 (by decide) (by decide +kernel)
      · exact h1 2 67 (by decide) (by decide +kernel)
      · exact h1 3 68 (by decide) (by decide +kernel)
    have := nodup_len n s
    simp only [List.length_map, List.length_cons, List.length_nil] at this
    omega
theorem head_cap {i c : Nat} (h : HEADS.cps[i]? = some c) : capB c = true := by
  have a : ∀ c ∈ HEADS.cps.toList, capB c = true := by decide +kernel
  exact a c (Array.mem_toList_iff.mpr (Array.mem_of_getElem? h))
def spName (K : PySem.W.Frag) : Sp := fun vs H Q _ => ∃ (wl l : Addr) (xs : List Str), vs = [.ref wl, .ref l] ∧ WellAt H wl ∧ H l = some (.lst (xs.map V.str)) ∧ l ≠ wl ∧ xs.length ≤ 3 ∧ (∀ x ∈ xs, wrB x = true) ∧ ∀ (x : Str) (H' : Hp), wrB x = true → txtOk x 8 → x ∉ xs → WellAt H' wl → But wl H H' → Q (.str x) H'
theorem joinSIH {S : Str → Int → Hp → Prop} {N : Str → Int → Hp → Prop} {Z : Prop} (h : ∀ x m H, S x m H → N x m H) (k : (∀ x m H, S x m H → N x m H) → Z) : Z := k h
theorem joinIH {S : Int → Hp → Prop} {N : Int → Hp → Prop} {Z : Prop} (h : ∀ m H, S m H → N m H) (k : (∀ m H, S m H → N m H) → Z) : Z := k h
section
variable {P : Program} {w : World} {K : PySem.W.Frag} {mg : Str → Option Value} {base : Heap}
theorem scNm : FnScope ["spring", "taken", "name", "tails", "more", "lap", "head"] ["spring", "taken"] (defScope sName) := ⟨rfl, rfl, rfl, by decide +kernel, rfl, by decide +kernel, by decide +kernel⟩
theorem ok_name {f gD : Addr} {fd dD : FuncData} (F : Fun K "_law_name" "_law_name" sName f fd) (R : Nr mg) (D : Gv P w K mg base 1 "_law_draw" gD dD ["spring", "top"] spDraw) : FnOk P w K mg base CX0 2 f fd ["spring", "taken"] (spName K) := by
  refine F.ok scNm (fun vs H Q E h => ?_) (fun cdv A outer s H vs Q E hr h => ?_)
  · obtain ⟨wl, l, xs, rfl, _⟩ := h
    rfl
  obtain ⟨wl, l, xs, rfl, hw, hl, nl, hz, hx, q⟩ := h
  refine ⟨_, pss_cons (ps_par (i := 2) (j := 3) rfl scNm.nd rfl rfl (by decide) rfl rfl (pa_cons (pe_ix ix_str pe_str (pe_call D.ok hr rfl D.m D.k D.b .nil pass0 (pa_cons (pv 0) (pa_cons pe_int pa_nil))) (fun _ _ => rfl)) (pa_cons pe_str pa_nil)) (by rfl))
    (pss_cons (ps_set (i := 4) scNm.nd rfl (.inl rfl) (pe_ifExp (pt_cmpR op_gt (pe_call D.ok hr rfl D.m D.k D.b .nil pass0 (pa_cons (pv 0) (pa_cons pe_int pa_nil))) pe_int (nomark _)) (pe_call D.ok hr rfl D.m D.k D.b .nil pass0 (pa_cons (pv 0) (pa_cons pe_int pa_nil))) (pe_call D.ok hr rfl D.m D.k D.b .nil pass0 (pa_cons (pv 0) (pa_cons pe_int pa_nil)))))
    (pss_cons (ps_if (PW.pt (pw_and (pt_cmpR (op_neD hr.units) (pv 1) (pe_lst pa_nil) (nomark _)) (pw_and1 (pt_cmpR op_eq (pe_call D.ok hr rfl D.m D.k D.b .nil pass0 (pa_cons (pv 0) (pa_cons pe_int pa_nil))) pe_int (nomark _)))))
      (pss_one (ps_par (i := 2) (j := 4) rfl scNm.nd rfl rfl (by decide) rfl rfl (pa_cons (pe_slice sl_str (pe_ix ix_list (pv 1) (pe_un un_neg pe_int) (fun _ _ => rfl)) po_none (po_some pe_int)) (pa_cons pe_int pa_nil)) (by rfl))) pss_nil)
    (pss_cons (ps_for PassesOwn.never rfl (pi_range1 (by rfl) R.range (pa_cons (pv 4) pa_nil)) (pg_name (i := 5) scNm.nd rfl (.inl rfl)) (pss_one (ps_set (i := 2) scNm.nd rfl (.inl rfl) (pe_op op_add_str (pv 2) (pe_ix ix_str (pv 3) (pe_call D.ok hr rfl D.m D.k D.b .nil pass0 (pa_cons (pv 0) (pa_cons pe_int pa_nil))) (fun _ _ => rfl))))))
    (pss_cons (ps_for PassesOwn.never rfl (pi_str pe_str) (pg_name (i := 6) scNm.nd rfl (.inl rfl)) (pss_one (ps_if (pt_cmpR op_in_seq (pv 2) (pv 1) (by rfl)) (pss_one (ps_set (i := 2) scNm.nd rfl (.inl rfl) (pe_op op_add_str (pv 6) (pe_slice sl_str (pv 2) (po_some pe_int) po_none)))) pss_nil)))
    (pss_one (ps_ret (pv 2))))))), ?_⟩
  have z3 : ∀ {k : Nat}, k ≤ 100 → k ≤ sizeLine := fun h => Nat.le_trans h (by decide)
  have lC : CAPS.cps.toList.length = 26 := by decide +kernel
  have lS : SMALLS.cps.toList.length = 36 := by decide +kernel
  refine ⟨_, rfl, wl, 26, rfl, by decide, by decide, hw, fun c0 H1 a0 a1 w1 e1 => ?_⟩
  obtain ⟨n0, rfl⟩ : ∃ n : Nat, c0 = (n : Int) := ⟨c0.toNat, by omega⟩
  have hc := List.getElem?_eq_getElem (l := CAPS.cps.toList) (i := n0) (by omega)
  have mc : CAPS.cps.toList[n0] ∈ CAPS.cps.toList := List.getElem_mem _
  generalize CAPS.cps.toList[n0] = c at hc mc
  refine ⟨CAPS, _, c, rfl, rfl, by decide +kernel, atI_nat hc, _, _, rfl, ?_⟩
  have x0 : wrX ⟨#[c]⟩ 0 := ⟨c, [], rfl, decide_eq_true mc, rfl, Nat.le_refl 0⟩
  have hl1 : H1 l = some (.lst (xs.map V.str)) := e1 _ _ nl hl
  -- how many signs more
  refine ⟨_, rfl, wl, 5, rfl, by decide, by decide, w1, fun d1 H2 _ _ w2 e2 => ⟨_, _, rfl, rfl, _, rfl, ?_⟩⟩
  refine joinIH (S := fun m H' => 0 ≤ m ∧ m ≤ 7 ∧ WellAt H' wl ∧ But wl H H') ?more (fun more => by
    refine ite2 (fun _ => ?_) (fun _ => ?_)
    · exact ⟨_, rfl, wl, 4, rfl, by decide, by decide, w2, fun m H3 m0 m1 w3 e3 => more m H3 ⟨m0, by omega, w3, (e1.trans e2).trans e3⟩⟩
    · exact ⟨_, rfl, wl, 8, rfl, by decide, by decide, w2, fun m H3 m0 m1 w3 e3 => more m H3 ⟨m0, by omega, w3, (e1.trans e2).trans e3⟩⟩)
  rintro m H3 ⟨m0, m7, w3, b3⟩
  have hl3 : H3 l = some (.lst (xs.map V.str)) := b3 _ _ nl hl
  have hx0 := x0
  generalize (⟨#[c]⟩ : Str) = x at hx0 ⊢
  clear x0
  refine joinSIH (S := fun x m H' => 0 ≤ m ∧ (∃ k : Nat, wrX x k ∧ (k : Int) + m ≤ 7) ∧ WellAt H' wl ∧ But wl H H') ?rest (fun rest => by
    refine ⟨_, rfl, by show 0 ≤ sizeLine; exact Nat.zero_le _, fun E5 h5 => ?_⟩
    have s5 := same_new h5 (.lst [])
    have w5 := well_same w3 s5
    have b5 := b3.trans (.of s5)
    have hL5 : upd H3 E5 (.lst []) l = _ := s5 _ _ hl3
    refine ⟨_, _, .lst (SqL.of hL5) (dp_strD _), .lst (SqL.of upd_same) .nil, strD_shaped _ (fun x m => (wrX_ok (wr_wrX (hx x m))).1), rfl, _, rfl, ?_⟩
    rw [eqv_nil]
    generalize upd H3 E5 (.lst []) = H5 at w5 b5 hL5 s5 ⊢
    generalize ex' : x = x'
    generalize em' : m = m'
    have hx' : wrX x' 0 := ex' ▸ hx0
    refine ite2 (fun g => ?_) (fun _ => iteF (rest x' m' H5 ⟨by omega, ⟨0, hx', by omega⟩, w5, b5⟩))
    refine ⟨_, rfl, wl, 4, rfl, by decide, by decide, w5, fun d2 H6 _ _ w6 e6 => ⟨rfl, _, rfl, ?_⟩⟩
    have b6 := b5.trans e6
    have hl6 : H6 l = some (.lst (xs.map V.str)) := b6 _ _ nl hl
    refine ite2 (fun _ => ?_) (fun _ => rest x' m' H6 ⟨by omega, ⟨0, hx', by omega⟩, w6, b6⟩)
    have ne : xs ≠ [] := fun z => by rw [z] at g; cases g
    have ek : (xs.dropLast ++ [xs.getLast ne]).map V.str = xs.map V.str := by rw [List.dropLast_concat_getLast]
    have ya := atI_last (xs.dropLast.map V.str) (V.str (xs.getLast ne))
    rw [show xs.dropLast.map V.str ++ [V.str (xs.getLast ne)] = (xs.dropLast ++ [xs.getLast ne]).map V.str by rw [List.map_append]; rfl, ek] at ya
    have yw := wr_wrX (hx _ (List.getLast_mem ne))
    refine ⟨_, rfl, _, rfl, l, _, _, _, rfl, rfl, SqL.of hl6, ya, _, rfl, _, rfl, z3 (by have := (wrX_ok yw).2; omega), _, _, rfl, ?_⟩
    exact rest _ 1 H6 ⟨by decide, ⟨6, wrX_cut yw, by decide⟩, w6, b6⟩)
  rintro x m' H4 ⟨m0', ⟨k, xk, km⟩, w4, b4⟩
  refine ⟨_, rfl, m', rfl, by omega, by omega, ?_⟩
  refine for_range (lo := 0) (n := m'.toNat) (fun i σ H' => ∃ (x : Str) (c5 : Option V), σ = [some (.ref wl), some (.ref l), some (.str x), some (.str SMALLS), some (.int m'), c5, none] ∧ wrX x (k + i) ∧ WellAt H' wl ∧ But wl H H') ⟨_, none, rfl, xk, w4, b4⟩ ?_ ?_
  · rintro i σ H5 hi ⟨x, c5, rfl, vx, w5, b5⟩
    refine ⟨_, rfl, _, rfl, _, rfl, wl, 36, rfl, by decide, by decide, w5, fun d H6 d0 d1 w6 e6 => ?_⟩
    obtain ⟨n1, rfl⟩ : ∃ n : Nat, d = (n : Int) := ⟨d.toNat, by omega⟩
    have hc2 := List.getElem?_eq_getElem (l := SMALLS.cps.toList) (i := n1) (by omega)
    have mc2 : SMALLS.cps.toList[n1] ∈ SMALLS.cps.toList := List.getElem_mem _
    generalize SMALLS.cps.toList[n1] = c2 at hc2 mc2
    refine ⟨SMALLS, _, c2, rfl, rfl, by decide +kernel, atI_nat hc2, x, _, rfl, rfl, ?_, _, _, rfl, wrX_snoc vx mc2, w6, b5.trans e6⟩
    have := (wrX_ok vx).2
    have l1 : (⟨#[c2]⟩ : Str).length = 1 := rfl
    exact z3 (by omega)
  · rintro σ H5 ⟨x, c5, rfl, vx, w5, b5⟩
    have vx7 := wrX_up (j := 7) vx (by omega)
    have hl5 : H5 l = some (.lst (xs.map V.str)) := b5 _ _ nl hl
    refine ⟨_, rfl, ?_⟩
    have l6 : ("ABCDEF" : Str).cps.size = 6 := by decide +kernel
    refine for_it walk_str (fun i σ H' => H' = H5 ∧ ∃ (x : Str) (c6 : Option V), σ = [some (.ref wl), some (.ref l), some (.str x), some (.str SMALLS), some (.int m'), c5, c6] ∧ wrX x 7 ∧ HInv xs i x) ⟨rfl, x, none, rfl, vx7, ?_⟩ (fun _ _ _ _ _ => trivial) ?_ ?_
    · by_cases q : x ∈ xs
      · exact .inr ⟨fun j _ hj => absurd hj (by omega), fun _ h => absurd h (by omega)⟩
      · exact .inl q
    · rintro i y σ H6 H6' hi ⟨rfl, x, c6, rfl, vx, iv⟩ ⟨rfl, c7, hc7, rfl⟩
      refine ⟨_, rfl, _, rfl, l, _, rfl, .inl (SqL.of hl5), rfl, flat_strs _, _, rfl, ?_⟩
      show if inV (V.str x) (xs.map V.str) = true then _ else _
      rw [inV_names]
      cases hx7 : xs.any fun y => decide (y = x) with
      | true =>
        have mx : x ∈ xs := by
          obtain ⟨y, my, e⟩ := List.any_eq_true.mp hx7
          rw [← of_decide_eq_true e]
          exact my
        have v2 := headed_wr vx (head_cap hc7)
        refine iteT ⟨_, rfl, _, rfl, _, rfl, x, rfl, z3 (by have := (wrX_ok vx).2; omega), _, _, rfl, rfl, ?_, rfl, headed c7 x, _, rfl, v2, hInv_next iv mx hc7⟩
        have := (wrX_ok v2).2
        have e : (headed c7 x).length = (⟨#[c7]⟩ ++ cutS x (some 1) none : Str).length := rfl
        rw [strLen_append] at e
        exact z3 (by omega)
      | false =>
        refine iteF ⟨rfl, x, _, rfl, vx, .inl fun mx => ?_⟩
        exact List.any_eq_false.mp hx7 x mx (decide_eq_true rfl)
    · rintro σ H6 ⟨rfl, x, c6, rfl, vx, iv⟩
      rw [l6] at iv
      exact ⟨_, rfl, q x _ (wrX_wr vx (Nat.le_refl 7)) (wrX_ok vx) (hInv_end iv hz) w5 b5⟩
end
end Toy
set_option Elab.async false
set_option linter.all false
set_option maxRecDepth 100000
set_option maxHeartbeats 4000000
namespace Toy
open PySem L2 PyProof.Rows
abbrev sForm : Stmt := top 66
/-! ### kinds drawn by parts -/
theorem joinB {A Z : Prop} (h : A) (k : A → Z) : Z := k h
theorem joinJ {S : Hp → Prop} {N : Hp → Prop} {Z : Prop} (h : ∀ H, S H → N H) (k : (∀ H, S H → N H) → Z) : Z := k h
def DrawnT (K : PySem.W.Frag) (wl : Addr) (G H : Hp) (n : Nat) (ok : Str → Prop) (Q : VK) : Prop := ∀ (v : V) (H' G' : Hp) (d : PyData), Gr wl G H G' H' → Dq K G' v d → KT ok n d → Q v H'
def spFo (K : PySem.W.Frag) (N : Nat) : Sp := fun vs H Q _ => ∃ (wl l : Addr) (G : Hp) (xs : List Str) (n : Nat), vs = [.ref wl, .ref l, .int (n : Nat)] ∧ 1 ≤ n ∧ n ≤ N ∧ n ≤ 1000 ∧ Stt wl G H ∧ H l = some (.lst (xs.map V.str)) ∧ l ≠ wl ∧ xs.length ≤ 1000 ∧ (∀ x ∈ xs, PyData.strOk x = true) ∧ DrawnT K wl G H ((n + 1) / 2) (· ∈ xs) Q
def lWd : List Str := ["thing", "unit", "thing", "thing", "unit", "thing", "none", "unit", "thing"]
theorem lWd_w3 : ∀ x ∈ lWd, w3 x = true := by
  have z : lWd.all w3 = true := by decide +kernel
  exact fun x h => List.all_eq_true.mp z x h
section
variable {P : Program} {w : World} {K : PySem.W.Frag} {mg : Str → Option Value} {base : Heap}
theorem scFo : FnScope ["spring", "names", "left", "way", "many", "lead"] ["spring", "names", "left"] (defScope sForm) := ⟨rfl, rfl, rfl, by decide +kernel, rfl, by decide +kernel, by decide +kernel⟩
theorem ok_formF {f gD gP : Addr} {fd dD dP : FuncData} {N k : Nat} {sp' : Sp} (hk : 2 ≤ k) (F : Fun K "_law_form" "_law_form" sForm f fd) (D : Gv P w K mg base 1 "_law_draw" gD dD ["spring", "top"] spDraw) (PT' : Gv P w K mg base 2 "_law_pick" gP dP ["spring", "some"] (spPick K)) (PL : FnOk P w K mg base CX0 2 gP dP ["spring", "some"] (spPickL K))
    (R : Gv P w K mg base k "_law_form" f fd ["spring", "names", "left"] sp') (hR : 3 ≤ N → sp' = spFo K (N - 1)) : FnOk P w K mg base CX0 (k + 1) f fd ["spring", "names", "left"] (spFo K N) := by
  refine F.ok scFo (fun vs H Q E h => ?_) (fun cdv A outer s H vs Q E hr h => ?_)
  · obtain ⟨wl, l, G, xs, n, rfl, _⟩ := h
    rfl
  obtain ⟨wl, l, G, xs, n, rfl, n1, nN, n9, st, hl, nl, hz, hx, q⟩ := h
  have hr1 : Room 1 (A.deeper _) := hr.mono (by omega)
  have hr2 : Room 2 (A.deeper _) := hr.mono hk
  refine ⟨_, (pss_cons (ps_set (i := 3) scFo.nd rfl (.inl rfl) (pe_call D.ok hr1 rfl D.m D.k D.b .nil pass0 (pa_cons (pv 0) (pa_cons pe_int pa_nil))))
    (pss_cons (ps_if (PW.pt (pw_or (pt_cmpR op_lt (pv 2) pe_int (nomark _)) (pw_or1 (pt_cmpR op_lt (pv 3) pe_int (nomark _))))) (pss_cons (ps_if (PW.pt (pw_and (pt_cmpR (op_neD hr.units) (pv 1) (pe_lst pa_nil) (nomark _)) (pw_and1 (pt_cmpR op_eq (pe_call D.ok hr1 rfl D.m D.k D.b .nil pass0 (pa_cons (pv 0) (pa_cons pe_int pa_nil))) pe_int (nomark _))))) (pss_one (ps_ret (pe_tupN (pa_cons pe_str (pa_cons (pe_call PL hr2 rfl PT'.m PT'.k PT'.b .nil pass0 (pa_cons (pv 0) (pa_cons (pv 1) pa_nil))) pa_nil))))) pss_nil)
    (pss_one (ps_ret (pe_tupN (pa_cons (pe_call PT'.ok hr2 rfl PT'.m PT'.k PT'.b .nil pass0 (pa_cons (pv 0) (pa_cons (pe_tup (pa_cons pe_str (pa_cons pe_str (pa_cons pe_str (pa_cons pe_str (pa_cons pe_str (pa_cons pe_str (pa_cons pe_str (pa_cons pe_str (pa_cons pe_str pa_nil)))))))))) pa_nil))) pa_nil))))) pss_nil)
    (pss_cons (ps_set (i := 4) scFo.nd rfl (.inl rfl) (pe_op op_add pe_int (pe_call D.ok hr1 rfl D.m D.k D.b .nil pass0 (pa_cons (pv 0) (pa_cons (pe_op op_sub (pv 2) pe_int) pa_nil)))))
    (pss_cons (ps_set (i := 5) scFo.nd rfl (.inl rfl) (pe_call R.ok hr rfl R.m R.k R.b .nil pass0 (pa_cons (pv 0) (pa_cons (pv 1) (pa_cons (pv 4) pa_nil)))))
    (pss_one (ps_ret (pe_tupN (pa_cons (pe_ifExp (pt_cmpR op_lt (pv 3) pe_int (nomark _)) pe_str pe_str) (pa_cons (pv 5) (pa_cons (pe_call R.ok hr rfl R.m R.k R.b .nil pass0 (pa_cons (pv 0) (pa_cons (pv 1) (pa_cons (pe_op op_sub (pe_op op_sub (pv 2) pe_int) (pv 4)) pa_nil)))) pa_nil)))))))))), ?_⟩
  have z3 : ∀ {k : Nat}, k ≤ 20 → k ≤ sizeLine := fun h => Nat.le_trans h (by decide)
  refine ⟨_, rfl, wl, 9, rfl, by decide, by decide, st.well, fun way H1 a0 a1 w1 e1 => ?_⟩
  have g1 := Gr.stay st w1 e1
  have st1 := g1.stt st
  have hl1 : H1 l = some (.lst (xs.map V.str)) := e1 l _ nl hl
  have d1 : 1 ≤ (n + 1) / 2 := by omega
  refine ⟨_, rfl, _, _, rfl, rfl, _, rfl, ?_⟩
  refine joinB ?leaf (fun leaf => by
    refine ite2 (fun _ => leaf) (fun g => ?_)
    refine ⟨_, rfl, _, _, rfl, rfl, _, rfl, ?_⟩
    refine ite2 (fun _ => leaf) (fun _ => ?_)
    have n3 : 3 ≤ n := by
      have z : ¬ (n : Int) < 3 := of_decide_eq_false (Bool.eq_false_iff.mpr g)
      omega
    obtain rfl := hR (by omega)
    refine ⟨_, rfl, _, rfl, _, _, rfl, rfl, wl, (n : Int) - 2, rfl, by omega, by omega, st1.well, fun m0 H2 b0 b1 wb2 e2 => ?_⟩
    obtain ⟨m, rfl⟩ : ∃ m : Nat, m0 = (m : Int) := ⟨m0.toNat, by omega⟩
    have g2 := g1.trans (Gr.stay st1 wb2 e2)
    have st2 := g2.stt st
    have hl2 := g2.lst nl hl
    refine ⟨_, _, rfl, rfl, _, rfl, _, rfl, _, rfl, ?_⟩
    have em : (V.int (1 + (m : Int))) = .int ((m + 1 : Nat) : Int) := by
      congr 1
      omega
    have en : (V.int ((n : Int) - 1 - (1 + (m : Int)))) = .int ((n - 2 - m : Nat) : Int) := by
      congr 1
      omega
    refine ⟨wl, l, G, xs, m + 1, (by show [V.ref wl, V.ref l, V.int (1 + (m : Int))] = _; rw [em]), by omega, by omega, by omega, st2, hl2, nl, hz, hx, fun v3 H3 G3 d3 g3 D3 t3 => ?_⟩
    have st3 := g3.stt st2
    have hl3 := g3.lst nl hl2
    have g13 := g2.trans g3
    refine ⟨_, rfl, _, _, rfl, rfl, _, rfl, ?_⟩
    have fin : ∀ (word : Str), w2 word = true → ∀ (v4 : V) (H4 G4 : Hp) (d4 : PyData), Gr wl G3 H3 G4 H4 → Dq K G4 v4 d4 → KT (· ∈ xs) ((n - 2 - m + 1) / 2) d4 → ∀ p ob, H4 p = none → ob.dict = none → Q (.ref p) (upd H4 p (.frz ob (.tup [.str word, v3, v4]))) := fun word hw2 v4 H4 G4 d4 g4 D4 t4 p ob hp hob => by
      obtain ⟨g5, D5⟩ := Gr.tup (K := K) (vs := [.str word, v3, v4]) (ds := [.str word, d3, d4]) (g4.stt st3) hp hob (.cons (.str _) (.cons (g4.dq D3) (.cons D4 .nil)))
      exact q _ _ _ _ ((g13.trans g4).trans g5) D5 (KT.row d1 hw2 (t3.up (by omega)) (t4.up (by omega)))
    refine ite2 (fun _ => ?_) (fun _ => ?_)
    · exact ⟨_, rfl, _, rfl, _, rfl, _, rfl, _, _, rfl, rfl, _, rfl, _, _, rfl, rfl, wl, l, G3, xs, n - 2 - m, (by show [V.ref wl, V.ref l, V.int ((n : Int) - 1 - (1 + (m : Int)))] = _; rw [en]), by omega, by omega, by omega, st3, hl3, nl, hz, hx, fun v4 H4 G4 d4 g4 D4 t4 => ⟨z3 (by show 3 ≤ 20; decide), fun p ob hp hob => fin "pair" (by decide +kernel) v4 H4 G4 d4 g4 D4 t4 p ob hp hob⟩⟩
    · exact ⟨_, rfl, _, rfl, _, rfl, _, rfl, _, _, rfl, rfl, _, rfl, _, _, rfl, rfl, wl, l, G3, xs, n - 2 - m, (by show [V.ref wl, V.ref l, V.int ((n : Int) - 1 - (1 + (m : Int)))] = _; rw [en]), by omega, by omega, by omega, st3, hl3, nl, hz, hx, fun v4 H4 G4 d4 g4 D4 t4 => ⟨z3 (by show 3 ≤ 20; decide), fun p ob hp hob => fin "either" (by decide +kernel) v4 H4 G4 d4 g4 D4 t4 p ob hp hob⟩⟩)
  refine ⟨_, rfl, by show 0 ≤ sizeLine; exact Nat.zero_le _, fun E5 h5 => ?_⟩
  have g5 := g1.trans (Gr.same st1 (same_new h5 (.lst [])))
  have hL5 : upd H1 E5 (.lst []) l = _ := same_new h5 (.lst []) _ _ hl1
  refine ⟨_, _, .lst (SqL.of hL5) (dp_strD _), .lst (SqL.of upd_same) .nil, strD_shaped _ hx, rfl, _, rfl, ?_⟩
  rw [eqv_nil]
  generalize upd H1 E5 (.lst []) = H5 at g5 hL5 ⊢
  have st5 := g5.stt st
  refine joinJ (S := fun H' => ∃ G', Gr wl G H G' H') ?word (fun word => by
    refine ite2 (fun g => ?_) (fun _ => iteF (word H5 ⟨_, g5⟩))
    refine ⟨_, rfl, wl, 2, rfl, by decide, by decide, st5.well, fun d2 H6 _ _ w6 e6 => ⟨rfl, _, rfl, ?_⟩⟩
    have g6 := g5.trans (Gr.stay st5 w6 e6)
    have st6 := g6.stt st
    have hl6 := g6.lst nl hl
    refine ite2 (fun _ => ?_) (fun _ => word H6 ⟨_, g6⟩)
    have ne : 1 ≤ xs.length := by
      cases xs with
      | nil => cases g
      | cons a b => simp
    refine ⟨_, rfl, _, rfl, wl, l, xs.map V.str, rfl, st6.well, SqL.of hl6, nl, by rw [List.length_map]; omega, by rw [List.length_map]; omega, fun v H7 hv w7 e7 => ⟨z3 (by show 2 ≤ 20; decide), fun p ob hp hob => ?_⟩⟩
    obtain ⟨x, mx, rfl⟩ := strs_of hv
    have g7 := g6.trans (Gr.stay st6 w7 e7)
    obtain ⟨g8, D8⟩ := Gr.tup (K := K) (vs := [.str "name", .str x]) (ds := [.str "name", .str x]) (g7.stt st) hp hob (.cons (.str _) (.cons (.str _) .nil))
    exact q _ _ _ _ (g7.trans g8) D8 (.nam' d1 mx))
  rintro H6 ⟨G6, g6⟩
  have st6 := g6.stt st
  refine ⟨_, rfl, z3 (by show 9 ≤ 20; decide), fun t ht => ⟨wl, t, lWd.map V.str, rfl, well_new st6.well ht _, SqT.of upd_same, by decide, by decide, fun v H7 hv w7 e7 => ⟨z3 (by show 1 ≤ 20; decide), fun p ob hp hob => ?_⟩⟩⟩
  obtain ⟨x, mx, rfl⟩ := strs_of hv
  have g7 := g6.trans (Gr.stay st6 w7 ((But.new ht _).trans e7))
  obtain ⟨g8, D8⟩ := Gr.tup (K := K) (vs := [.str x]) (ds := [.str x]) (g7.stt st) hp hob (.cons (.str _) .nil)
  exact q _ _ _ _ (g7.trans g8) D8 (.one' d1 (lWd_w3 x mx))
theorem none_leftFo {f : Addr} {fd : FuncData} {k : Nat} : FnOk P w K mg base CX0 k f fd ["spring", "names", "left"] (fun _ _ _ _ => False) := ⟨fun _ _ _ _ h => h.elim, fun _ _ _ _ _ _ _ _ _ _ _ _ _ h => h.elim⟩
theorem formsF {f gD gP : Addr} {fd dD dP : FuncData} (F : Fun K "_law_form" "_law_form" sForm f fd) (bF : Binds K fd ["spring", "names", "left"] []) (mF : mg "_law_form" = some (.ref f)) (D : Gv P w K mg base 1 "_law_draw" gD dD ["spring", "top"] spDraw) (PT' : Gv P w K mg base 2 "_law_pick" gP dP ["spring", "some"] (spPick K)) (PL : FnOk P w K mg base CX0 2 gP dP ["spring", "some"] (spPickL K)) :
    ∀ n : Nat, Gv P w K mg base (3 + n) "_law_form" f fd ["spring", "names", "left"] (spFo K n)
  | 0 => ⟨ok_formF (N := 0) (Nat.le_refl 2) F D PT' PL ⟨none_leftFo, bF, F.kp, mF⟩ (fun h => absurd h (by decide)), bF, F.kp, mF⟩
  | n + 1 => ⟨ok_formF (N := n + 1) (k := 3 + n) (by omega) F D PT' PL (formsF F bF mF D PT' PL n) (fun _ => rfl), bF, F.kp, mF⟩
end
end Toy
set_option Elab.async false
set_option linter.all false
set_option maxRecDepth 100000
set_option maxHeartbeats 4000000
namespace Toy
open PySem L2 PyProof.Rows
abbrev sOwn : Stmt := top 67
def spOf (K : PySem.W.Frag) : Sp := fun vs H Q _ => ∃ (wl l : Addr) (G : Hp) (xs : List Str) (y : Str), vs = [.ref wl, .ref l, .str y, .int 5] ∧ Stt wl G H ∧ H l = some (.lst (xs.map V.str)) ∧ l ≠ wl ∧ 1 ≤ xs.length ∧ xs.length ≤ 1000 ∧ (∀ x ∈ xs, PyData.strOk x = true) ∧ y ∈ xs ∧ DrawnT K wl G H 6 (· ∈ xs) Q
theorem joinVH {S : V → Hp → Prop} {N : V → Hp → Prop} {Z : Prop} (h : ∀ v H, S v H → N v H) (k : (∀ v H, S v H → N v H) → Z) : Z := k h
theorem joinPH {S : Addr → Hp → Prop} {N : Addr → Hp → Prop} {Z : Prop} (h : ∀ v H, S v H → N v H) (k : (∀ v H, S v H → N v H) → Z) : Z := k h
theorem joinVIH {S : V → V → Int → Hp → Prop} {N : V → V → Int → Hp → Prop} {Z : Prop} (h : ∀ v u i H, S v u i H → N v u i H) (k : (∀ v u i H, S v u i H → N v u i H) → Z) : Z := k h
section
variable {P : Program} {w : World} {K : PySem.W.Frag} {mg : Str → Option Value} {base : Heap}
theorem scOf : FnScope ["spring", "names", "name", "left", "way", "own", "other", "out", "some", "more"] ["spring", "names", "name", "left"] (defScope sOwn) := ⟨rfl, rfl, rfl, by decide +kernel, rfl, by decide +kernel, by decide +kernel⟩
theorem ok_ownform {f gD gP gF : Addr} {fd dD dP dF : FuncData} (F : Fun K "_law_own_form" "_law_own_form" sOwn f fd) (D : Gv P w K mg base 1 "_law_draw" gD dD ["spring", "top"] spDraw) (PT' : Gv P w K mg base 2 "_law_pick" gP dP ["spring", "some"] (spPick K)) (PL : FnOk P w K mg base CX0 2 gP dP ["spring", "some"] (spPickL K))
    (FO : Gv P w K mg base 11 "_law_form" gF dF ["spring", "names", "left"] (spFo K 8)) : FnOk P w K mg base CX0 12 f fd ["spring", "names", "name", "left"] (spOf K) := by
  refine F.ok scOf (fun vs H Q E h => ?_) (fun cdv A outer s H vs Q E hr h => ?_)
  · obtain ⟨wl, l, G, xs, y, rfl, _⟩ := h
    rfl
  obtain ⟨wl, l, G, xs, y, rfl, st, hl, nl, hz1, hz, hx, my, q⟩ := h
  have hr1 : Room 1 (A.deeper _) := hr.mono (by omega)
  have hr2 : Room 2 (A.deeper _) := hr.mono (by omega)
  refine ⟨_, (pss_cons (ps_par3 (i := 4) (j := 5) (l := 6) rfl scOf.nd rfl rfl rfl (by decide) (by decide) (by decide) rfl rfl rfl (pa_cons (pe_call D.ok hr1 rfl D.m D.k D.b .nil pass0 (pa_cons (pv 0) (pa_cons pe_int pa_nil))) (pa_cons (pe_tupN (pa_cons pe_str (pa_cons (pv 2) pa_nil))) (pa_cons (pe_tupN (pa_cons pe_str (pa_cons (pe_call PL hr2 rfl PT'.m PT'.k PT'.b .nil pass0 (pa_cons (pv 0) (pa_cons (pv 1) pa_nil))) pa_nil))) pa_nil))) (by rfl))
    (pss_cons (ps_if (pt_cmpR op_eq (pv 4) pe_int (nomark _)) (pss_one (ps_ret (pe_call FO.ok hr rfl FO.m FO.k FO.b .nil pass0 (pa_cons (pv 0) (pa_cons (pv 1) (pa_cons (pe_op op_add (pv 3) pe_int) pa_nil)))))) pss_nil)
    (pss_cons (ps_set (i := 7) scOf.nd rfl (.inl rfl) (pe_call FO.ok hr rfl FO.m FO.k FO.b .nil pass0 (pa_cons (pv 0) (pa_cons (pe_ifExp (pt_cmpR op_eq (pv 4) pe_int (nomark _)) (pv 1) (pe_lst pa_nil)) (pa_cons (pe_op op_add pe_int (pe_op op_mul pe_int (pe_call D.ok hr1 rfl D.m D.k D.b .nil pass0 (pa_cons (pv 0) (pa_cons pe_int pa_nil))))) pa_nil)))))
    (pss_cons (ps_set (i := 8) scOf.nd rfl (.inl rfl) (pe_call FO.ok hr rfl FO.m FO.k FO.b .nil pass0 (pa_cons (pv 0) (pa_cons (pv 1) (pa_cons (pe_op op_add pe_int (pe_call D.ok hr1 rfl D.m D.k D.b .nil pass0 (pa_cons (pv 0) (pa_cons (pv 3) pa_nil)))) pa_nil)))))
    (pss_cons (ps_if (pt_cmpR op_lt (pv 4) pe_int (nomark _)) (pss_one (ps_set (i := 9) scOf.nd rfl (.inl rfl) (pe_tupN (pa_cons pe_str (pa_cons (pv 8) (pa_cons (pv 5) pa_nil)))))) (pss_one (ps_if (pt_cmpR op_lt (pv 4) pe_int (nomark _)) (pss_one (ps_set (i := 9) scOf.nd rfl (.inl rfl) (pe_tupN (pa_cons pe_str (pa_cons (pv 6) (pa_cons (pe_tupN (pa_cons pe_str (pa_cons (pv 8) (pa_cons (pv 5) pa_nil)))) pa_nil)))))) (pss_one (ps_if (pt_cmpR op_eq (pv 4) pe_int (nomark _)) (pss_one (ps_set (i := 9) scOf.nd rfl (.inl rfl) (pv 6))) (pss_one (ps_set (i := 9) scOf.nd rfl (.inl rfl) (pe_ifExp (pt_cmpR op_eq (pv 4) pe_int (nomark _)) (pe_tupN (pa_cons pe_str (pa_cons (pe_tupN (pa_cons pe_str (pa_cons (pv 5) (pa_cons (pv 6) pa_nil)))) (pa_cons (pv 8) pa_nil)))) (pe_tupN (pa_cons pe_str (pa_cons (pv 5) (pa_cons (pv 8) pa_nil))))))))))))
    (pss_one (ps_ret (pe_ifExp (pt_cmpR op_eq (pe_call D.ok hr1 rfl D.m D.k D.b .nil pass0 (pa_cons (pv 0) (pa_cons pe_int pa_nil))) pe_int (nomark _)) (pe_tupN (pa_cons pe_str (pa_cons (pv 7) (pa_cons (pv 9) pa_nil)))) (pe_tupN (pa_cons pe_str (pa_cons (pv 9) (pa_cons (pv 7) pa_nil)))))))))))), ?_⟩
  have z3 : ∀ {k : Nat}, k ≤ 20 → k ≤ sizeLine := fun h => Nat.le_trans h (by decide)
  refine ⟨_, rfl, wl, 9, rfl, by decide, by decide, st.well, fun way H1 a0 a1 w1 e1 => ?_⟩
  have g1 := Gr.stay st w1 e1
  have st1 := g1.stt st
  refine ⟨_, rfl, z3 (by show 2 ≤ 20; decide), fun p5 o5 hp5 ho5 => ?_⟩
  obtain ⟨g2, D5⟩ := Gr.tup (K := K) (vs := [.str "name", .str y]) (ds := [.str "name", .str y]) st1 hp5 ho5 (.cons (.str _) (.cons (.str _) .nil))
  have g12 := g1.trans g2
  have st2 := g12.stt st
  have hl2 := g12.lst nl hl
  generalize upd H1 p5 (.frz o5 (.tup [.str "name", .str y])) = H2 at g12 st2 hl2 D5 g2 ⊢
  generalize upd G p5 (.frz o5 (.tup [.str "name", .str y])) = G2 at g12 st2 hl2 D5 g2 ⊢
  refine ⟨_, rfl, _, rfl, wl, l, xs.map V.str, rfl, st2.well, SqL.of hl2, nl, by rw [List.length_map]; omega, by rw [List.length_map]; omega, fun v H3 hv w3' e3 => ⟨z3 (by show 2 ≤ 20; decide), fun p6 o6 hp6 ho6 => ?_⟩⟩
  obtain ⟨x, mx, rfl⟩ := strs_of hv
  have g3 := Gr.stay st2 w3' e3
  obtain ⟨g4, D6⟩ := Gr.tup (K := K) (vs := [.str "name", .str x]) (ds := [.str "name", .str x]) (g3.stt st2) hp6 ho6 (.cons (.str _) (.cons (.str _) .nil))
  have g24 := g3.trans g4
  have D5' := g24.dq D5
  have g14 := g12.trans g24
  have st4 := g14.stt st
  have hl4 := g14.lst nl hl
  generalize upd H3 p6 (.frz o6 (.tup [.str "name", .str x])) = H4 at g14 st4 hl4 D6 D5' ⊢
  generalize upd G2 p6 (.frz o6 (.tup [.str "name", .str x])) = G4 at g14 st4 D6 D5' ⊢
  refine ⟨_, _, _, rfl, ?_⟩
  have Kown : KT (· ∈ xs) 1 (.tuple [.str "name", .str y]) := .nam' (Nat.le_refl 1) my
  have Koth : KT (· ∈ xs) 1 (.tuple [.str "name", .str x]) := .nam' (Nat.le_refl 1) mx
  refine ⟨_, rfl, rfl, _, rfl, ?_⟩
  refine ite2 (fun _ => ?_) (fun _ => ?_)
  · exact ⟨_, rfl, _, rfl, _, rfl, _, _, rfl, rfl, wl, l, G4, xs, 8, rfl, by decide, by decide, by decide, st4, hl4, nl, hz, hx, fun v H5 G5 d g5 D t => q _ _ _ _ (g14.trans g5) D (t.up (by decide))⟩
  refine ⟨_, rfl, _, rfl, rfl, _, rfl, ?_⟩
  refine ite2 (fun _ => ?a) (fun _ => ⟨by show 0 ≤ sizeLine; exact Nat.zero_le _, fun pn hpn => ?b⟩)
  case' a =>
    have hA : H4 l = some (.lst (xs.map V.str)) := hl4
    have nA : l ≠ wl := nl
    have gA := Gr.refl st4
    have sub : ∀ z ∈ xs, z ∈ xs := fun _ h => h
    have zA := hz
    refine ⟨_, rfl, ?_⟩
  case' b =>
    have hA : upd H4 pn (.lst []) pn = some (.lst (([] : List Str).map V.str)) := upd_same
    have nA : pn ≠ wl := fun z => by rw [z] at hpn; exact well_ne st4.well hpn
    have gA := Gr.same st4 (same_new hpn (.lst []))
    have sub : ∀ z ∈ ([] : List Str), z ∈ xs := fun _ h => (nomatch h)
    have zA : ([] : List Str).length ≤ 1000 := by decide
  all_goals
    have stA := gA.stt st4
    refine ⟨_, rfl, wl, 2, rfl, by decide, by decide, stA.well, fun b0 H6 b1 b2 w6 e6 => ?_⟩
    obtain ⟨nb, rfl⟩ : ∃ nb : Nat, b0 = (nb : Int) := ⟨b0.toNat, by omega⟩
    have g6 := Gr.stay stA w6 e6
    have st6 := g6.stt stA
    have hA6 := g6.lst nA hA
    refine ⟨_, _, rfl, rfl, .inl ⟨by decide, by decide⟩, _, _, rfl, rfl, ?_⟩
    refine ⟨wl, _, G4, _, 1 + 2 * nb, rfl, by omega, by omega, by omega, st6, hA6, nA, zA, (fun z m => hx z (sub z m)), fun vo H7 G7 dO gO DO TO => ?_⟩
    have TO' : KT (· ∈ xs) 2 dO := (TO.ok sub).up (by omega)
    have g47 := (gA.trans g6).trans gO
    have st7 := g47.stt st4
    have hl7 := g47.lst nl hl4
    refine ⟨_, rfl, _, rfl, _, rfl, _, rfl, wl, 5, rfl, by decide, by decide, st7.well, fun c0 H8 c1 c2 w8 e8 => ?_⟩
    obtain ⟨nc, rfl⟩ : ∃ nc : Nat, c0 = (nc : Int) := ⟨c0.toNat, by omega⟩
    have g8 := Gr.stay st7 w8 e8
    have st8 := g8.stt st7
    have hl8 := g8.lst nl hl7
    refine ⟨_, _, rfl, rfl, ?_⟩
    refine ⟨wl, l, G7, xs, 1 + nc, rfl, by omega, by omega, by omega, st8, hl8, nl, hz, hx, fun vS H9 G9 dS gS DS TS => ?_⟩
    have TS' : KT (· ∈ xs) 3 dS := TS.up (by omega)
    have g79 := g8.trans gS
    have g49 := g47.trans g79
    have st9 := g49.stt st4
    have D5n := g49.dq D5'
    have D6n := g49.dq D6
    have DOn := g79.dq DO
    have wp : w2 "pair" = true := by decide +kernel
    have we : w2 "either" = true := by decide +kernel
    refine joinPH (S := fun p H' => ∃ G' d, Gr wl G9 H9 G' H' ∧ Dq K G' (.ref p) d ∧ KT (· ∈ xs) 5 d) ?_ (fun more => by
      have two : ∀ {w : Str} {v u : V} {d e : PyData} {H' G' : Hp} {n : Nat}, w2 w = true → Gr wl G9 H9 G' H' → Dq K G' v d → Dq K G' u e → KT (· ∈ xs) n d → KT (· ∈ xs) n e → ∀ p ob, H' p = none → ob.dict = none → Gr wl G9 H9 (upd G' p (.frz ob (.tup [.str w, v, u]))) (upd H' p (.frz ob (.tup [.str w, v, u]))) ∧ Dq K (upd G' p (.frz ob (.tup [.str w, v, u]))) (.ref p) (.tuple [.str w, d, e]) ∧ KT (· ∈ xs) (n + 1) (.tuple [.str w, d, e]) := fun hw g D E td te p ob hp hob => by
        obtain ⟨ga, Da⟩ := Gr.tup (K := K) (g.stt st9) hp hob (.cons (.str _) (.cons D (.cons E .nil)))
        exact ⟨g.trans ga, Da, .two hw td te⟩
      have r9 := Gr.refl st9
      refine ⟨_, rfl, _, _, rfl, rfl, _, rfl, ?_⟩
      refine ite2 (fun _ => ?_) (fun _ => ?_)
      · refine ⟨_, rfl, _, rfl, z3 (by show 3 ≤ 20; decide), fun p ob hp hob => ?_⟩
        obtain ⟨ga, Da, ta⟩ := two wp r9 DS D5n TS' (Kown.up (by decide)) p ob hp hob
        generalize upd H9 p (.frz ob (.tup [.str "pair", vS, .ref p5])) = Hn at ga ⊢
        exact more p Hn ⟨_, _, ga, Da, ta.up (by decide)⟩
      refine ⟨_, rfl, _, _, rfl, rfl, _, rfl, ?_⟩
      refine ite2 (fun _ => ?_) (fun _ => ?_)
      · refine ⟨_, rfl, _, rfl, _, rfl, z3 (by show 3 ≤ 20; decide), fun p ob hp hob => ⟨z3 (by show 3 ≤ 20; decide), fun p' ob' hp' hob' => ?_⟩⟩
        obtain ⟨ga, Da, ta⟩ := two wp r9 DS D5n TS' (Kown.up (by decide)) p ob hp hob
        obtain ⟨gb, Db, tb⟩ := two wp ga (Dq.mono ga.gg _ _ D6n) Da (Koth.up (by decide)) ta p' ob' hp' hob'
        exact more p' _ ⟨_, _, gb, Db, tb⟩
      refine ⟨_, rfl, rfl, _, rfl, ?_⟩
      refine ite2 (fun _ => ?_) (fun _ => ?_)
      · exact ⟨_, rfl, more p6 _ ⟨_, _, r9, D6n, Koth.up (by decide)⟩⟩
      refine ⟨_, rfl, rfl, _, rfl, ?_⟩
      refine ite2 (fun _ => ?_) (fun _ => ?_)
      · refine ⟨_, rfl, _, rfl, z3 (by show 3 ≤ 20; decide), fun p ob hp hob => ⟨_, rfl, z3 (by show 3 ≤ 20; decide), fun p' ob' hp' hob' => ?_⟩⟩
        obtain ⟨ga, Da, ta⟩ := two wp r9 D5n D6n Kown Koth p ob hp hob
        obtain ⟨gb, Db, tb⟩ := two we ga Da (Dq.mono ga.gg _ _ DS) (ta.up (m := 3) (by decide)) TS' p' ob' hp' hob'
        exact more p' _ ⟨_, _, gb, Db, tb.up (by decide)⟩
      · refine ⟨_, rfl, _, rfl, z3 (by show 3 ≤ 20; decide), fun p ob hp hob => ?_⟩
        obtain ⟨ga, Da, ta⟩ := two wp r9 D5n DS (Kown.up (by decide)) TS' p ob hp hob
        exact more p _ ⟨_, _, ga, Da, ta.up (by decide)⟩)
    rintro p H10 ⟨G10, dM, g10, DM, TM⟩
    have st10 := g10.stt st9
    refine ⟨_, rfl, wl, 2, rfl, by decide, by decide, st10.well, fun d0 H11 _ _ w11 e11 => ⟨rfl, _, rfl, ?_⟩⟩
    have g11 := g10.trans (Gr.stay st10 w11 e11)
    have st11 := g11.stt st9
    have gall := (g14.trans g49).trans g11
    have DMn := DM
    have DOm := Dq.mono g10.gg _ _ DOn
    refine ite2 (fun _ => ?_) (fun _ => ?_)
    · refine ⟨_, rfl, _, rfl, z3 (by show 3 ≤ 20; decide), fun pz oz hpz hoz => ?_⟩
      obtain ⟨gz, Dz⟩ := Gr.tup (K := K) st11 hpz hoz (.cons (.str _) (.cons DOm (.cons DMn .nil)))
      exact q _ _ _ _ (gall.trans gz) Dz (.two we (TO'.up (by decide)) TM)
    · refine ⟨_, rfl, _, rfl, z3 (by show 3 ≤ 20; decide), fun pz oz hpz hoz => ?_⟩
      obtain ⟨gz, Dz⟩ := Gr.tup (K := K) st11 hpz hoz (.cons (.str _) (.cons DMn (.cons DOm .nil)))
      exact q _ _ _ _ (gall.trans gz) Dz (.two we TM (TO'.up (by decide)))
end
end Toy
set_option Elab.async false
set_option linter.all false
set_option maxRecDepth 100000
set_option maxHeartbeats 4000000
namespace Toy
open PySem L2 PyProof.Rows
abbrev sLib : Stmt := top 68
theorem txt_lit {x : Str} {n : Nat} (h : (PyData.strOk x && decide (x.length ≤ n)) = true) : txtOk x n := by
  rw [Bool.and_eq_true, decide_eq_true_eq] at h
  exact h
theorem inV_of {w : Str} {ws : List Str} (h : inV (.str w) (ws.map V.str) = true) : w ∈ ws := by
  rw [inV_names, List.any_eq_true] at h
  obtain ⟨y, my, e⟩ := h
  rw [← of_decide_eq_true e]
  exact my
theorem w3_txt {w : Str} (h : w3 w = true) : txtOk w 8 := by
  have m : w ∈ L3 := inV_of (ws := L3) h
  have z : L3.all (fun x => PyData.strOk x && decide (x.length ≤ 8)) = true := by decide +kernel
  exact txt_lit (List.all_eq_true.mp z w m)
theorem w2_txt {w : Str} (h : w2 w = true) : txtOk w 8 := by
  have m : w ∈ L2w := inV_of (ws := L2w) h
  have z : L2w.all (fun x => PyData.strOk x && decide (x.length ≤ 8)) = true := by decide +kernel
  exact txt_lit (List.all_eq_true.mp z w m)
theorem Gr.ownL {wl pl : Addr} {G H G' H' : Hp} (g : Gr wl G H G' H') (hp : H pl = none) (gp : G' pl = none) (np : pl ≠ wl) (o : HO) : Gr wl G H G' (upd H' pl o) :=
  ⟨g.gg, fun b u e => by rw [upd_ne (fun z => by rw [z, gp] at e; cases e)]; exact g.gh b u e, g.gn, by
    obtain ⟨a, b, c, e⟩ := g.well
    exact ⟨a, b, c, by rw [upd_ne (Ne.symm np)]; exact e⟩, fun b u n e => by rw [upd_ne (fun z => by rw [z, hp] at e; cases e)]; exact g.but b u n e⟩
theorem kt_gd {ok : Str → Prop} (ho : ∀ x, ok x → txtOk x 8) {n : Nat} {d : PyData} (t : KT ok n d) : Gd d 0 (wk n) n := by
  induction t with
  | @one n w hw =>
    have tw := w3_txt hw
    have lw : w.cps.size ≤ 8 := tw.2
    refine ⟨?_, ?_, ?_⟩
    · show (gdB 0 (.str w) && true) = true
      rw [(gd_str tw (j := 0) (by omega)).g]
      rfl
    · have := wk_low (n + 1)
      simp only [PyData.weight, PyData.weightAll]
      omega
    · simp only [PyData.depth, PyData.depthAll]
      omega
  | @nam n x hx =>
    have tx := ho x hx
    have lx : x.cps.size ≤ 8 := tx.2
    have l4 : ("name" : Str).cps.size = 4 := by decide +kernel
    refine ⟨?_, ?_, ?_⟩
    · show (gdB 0 (.str "name") && (gdB 0 (.str x) && true)) = true
      rw [show gdB 0 (.str "name") = true by decide +kernel, (gd_str tx (j := 0) (by omega)).g]
      rfl
    · have := wk_low (n + 1)
      simp only [PyData.weight, PyData.weightAll]
      omega
    · simp only [PyData.depth, PyData.depthAll]
      omega
  | @two n w a b hw ta tb ia ib =>
    have tw := w2_txt hw
    have lw : w.cps.size ≤ 6 := by
      have m : w ∈ L2w := inV_of (ws := L2w) hw
      have z : L2w.all (fun x => decide (x.cps.size ≤ 6)) = true := by decide +kernel
      exact of_decide_eq_true (List.all_eq_true.mp z w m)
    obtain ⟨m, rfl⟩ : ∃ m, n = m + 1 := by
      cases ta <;> exact ⟨_, rfl⟩
    refine ⟨?_, ?_, ?_⟩
    · show (gdB 0 (.str w) && (gdB 0 a && (gdB 0 b && true))) = true
      rw [(gd_str tw (j := 0) (by omega)).g, ia.g, ib.g]
      rfl
    · have e : wk (m + 1 + 1) = 2 * wk (m + 1) + 9 := rfl
      have x := ia.w
      have y := ib.w
      simp only [PyData.weight, PyData.weightAll]
      omega
    · have x := ia.k
      have y := ib.k
      simp only [PyData.depth, PyData.depthAll]
      omega
def spLb (K : PySem.W.Frag) : Sp := fun vs H Q _ => ∃ (wl : Addr) (G : Hp), vs = [.ref wl, .int 5] ∧ Stt wl G H ∧ ∀ (v : V) (H' G' : Hp) (ns : List Str) (ds : List PyData), Gr wl G H G' H' → Dq K G' v (.tuple ds) → BookD ns ds → Q v H'
section
variable {P : Program} {w : World} {K : PySem.W.Frag} {mg : Str → Option Value} {base : Heap}
theorem scLb : FnScope ["spring", "left", "names", "rows", "lap", "name"] ["spring", "left"] (defScope sLib) := ⟨rfl, rfl, rfl, by decide +kernel, rfl, by decide +kernel, by decide +kernel⟩
theorem ok_lib {f gD gN gO : Addr} {fd dD dN dO : FuncData} (F : Fun K "_law_lib" "_law_lib" sLib f fd) (R : Nr mg) (TU : mg "tuple" = none) (SG : mg "sorted" = none) (D : Gv P w K mg base 1 "_law_draw" gD dD ["spring", "top"] spDraw) (NM : Gv P w K mg base 2 "_law_name" gN dN ["spring", "taken"] (spName K))
    (OF : Gv P w K mg base 12 "_law_own_form" gO dO ["spring", "names", "name", "left"] (spOf K)) : FnOk P w K mg base CX0 13 f fd ["spring", "left"] (spLb K) := by
  refine F.ok scLb (fun vs H Q E h => ?_) (fun cdv A outer s H vs Q E hr h => ?_)
  · obtain ⟨wl, G, rfl, _⟩ := h
    rfl
  obtain ⟨wl, G, rfl, st, q⟩ := h
  have hr1 : Room 1 (A.deeper _) := hr.mono (by omega)
  have hr2 : Room 2 (A.deeper _) := hr.mono (by omega)
  refine ⟨_, (pss_cons (ps_par (i := 2) (j := 3) rfl scLb.nd rfl rfl (by decide) rfl rfl (pa_cons (pe_lst pa_nil) (pa_cons (pe_lst pa_nil) pa_nil)) (by rfl))
    (pss_cons (ps_for PassesOwn.never rfl (pi_range1 (by rfl) R.range (pa_cons (pe_op op_add (pe_op op_add pe_int (pe_call D.ok hr1 rfl D.m D.k D.b .nil pass0 (pa_cons (pv 0) (pa_cons pe_int pa_nil)))) (pe_call D.ok hr1 rfl D.m D.k D.b .nil pass0 (pa_cons (pv 0) (pa_cons pe_int pa_nil)))) pa_nil)) (pg_name (i := 4) scLb.nd rfl (.inl rfl)) (pss_one (ps_expr (pe_bm PySem.F.plainAttrs_list PySem.F.slot_list_append PySem.F.type_list_append mt_append (pv 2) (pa_cons (pe_call NM.ok hr2 rfl NM.m NM.k NM.b .nil pass0 (pa_cons (pv 0) (pa_cons (pv 2) pa_nil))) pa_nil)))))
    (pss_cons (ps_for PassesOwn.never rfl (pi_list (pe_callB cr_sortedX rfl SG (by decide +kernel) (pa_cons (pv 2) pa_nil))) (pg_name (i := 5) scLb.nd rfl (.inl rfl)) (pss_one (ps_expr (pe_bm PySem.F.plainAttrs_list PySem.F.slot_list_append PySem.F.type_list_append mt_append (pv 3) (pa_cons (pe_tupN (pa_cons (pv 5) (pa_cons (pe_call OF.ok hr rfl OF.m OF.k OF.b .nil pass0 (pa_cons (pv 0) (pa_cons (pv 2) (pa_cons (pv 5) (pa_cons (pv 1) pa_nil))))) pa_nil))) pa_nil)))))
    (pss_one (ps_ret (pe_callTy call_tupleN rfl TU (by decide +kernel) (pa_cons (pv 3) pa_nil))))))), ?_⟩
  have z3 : ∀ {k : Nat}, k ≤ 20 → k ≤ sizeLine := fun h => Nat.le_trans h (by decide)
  have z4 : ∀ {k : Nat}, k ≤ 20 → k < sizeLine := fun h => Nat.lt_of_le_of_lt h (by decide)
  refine ⟨z3 (by show 0 ≤ 20; decide), fun nm hnm => ⟨z3 (by show 0 ≤ 20; decide), fun rl hrl => ?_⟩⟩
  have s1 := same_new hnm (.lst [])
  have s2 := same_new hrl (.lst [])
  have nmw : nm ≠ wl := fun z => by rw [z] at hnm; exact well_ne st.well hnm
  have rlH : H rl = none := s1.free hrl
  have rlw : rl ≠ wl := fun z => by rw [z] at rlH; exact well_ne st.well rlH
  have nr : nm ≠ rl := fun z => by rw [z, ← z] at hrl; rw [upd_same] at hrl; cases hrl
  have hN0 : upd (upd H nm (.lst [])) rl (.lst []) nm = some (.lst (([] : List Str).map V.str)) := s2 _ _ upd_same
  have hR0 : upd (upd H nm (.lst [])) rl (.lst []) rl = some (.lst []) := upd_same
  have w0 := well_same (well_same st.well s1) s2
  have b0 : But wl H _ := .of (s1.trans s2)
  generalize upd (upd H nm (.lst [])) rl (.lst []) = H0 at hN0 hR0 w0 b0 ⊢
  refine ⟨_, _, rfl, ?_⟩
  refine ⟨_, rfl, wl, 2, rfl, by decide, by decide, w0, fun a2 H1 a20 a21 w1 e1 => ⟨_, _, rfl, rfl, _, rfl, wl, 3, rfl, by decide, by decide, w1, fun a3 H2 a30 a31 w2' e2 => ⟨_, _, rfl, rfl, ?_⟩⟩⟩
  have e12 := e1.trans e2
  have hN2 : H2 nm = _ := e12 _ _ nmw hN0
  have hR2 : H2 rl = _ := e12 _ _ rlw hR0
  have b2 := b0.trans e12
  refine ⟨1 + a2 + a3, rfl, by omega, by omega, ?_⟩
  refine for_range (lo := 0) (n := (1 + a2 + a3).toNat) (fun i σ H' => ∃ (xs : List Str) (c : Option V), σ = [some (.ref wl), some (.int 5), some (.ref nm), some (.ref rl), c, none] ∧ H' nm = some (.lst (xs.map V.str)) ∧ H' rl = some (.lst []) ∧ xs.length = i ∧ xs.Nodup ∧ (∀ x ∈ xs, wrB x = true ∧ txtOk x 8) ∧ WellAt H' wl ∧ But wl H H')
    ⟨[], none, rfl, hN2, hR2, rfl, .nil, fun _ m => (nomatch m), w2', b2⟩ ?_ ?_
  · rintro i σ H3 hi ⟨xs, c, rfl, hN3, hR3, hl3, nd3, hx3, w3', b3⟩
    refine ⟨_, rfl, .inl ⟨rfl, _, SqL.of hN3⟩, _, rfl, _, rfl, wl, nm, xs, rfl, w3', hN3, nmw, by omega, (fun x m => (hx3 x m).1), fun x H4 wx tx nx w4 e4 => ?_⟩
    have hN4 : H4 nm = _ := e4 _ _ nmw hN3
    have hR4 : H4 rl = _ := e4 _ _ rlw hR3
    have b4 := b3.trans e4
    refine ⟨nm, xs.map V.str, .str x, rfl, rfl, hN4, z4 (by rw [List.length_map]; omega), ?_⟩
    refine ⟨xs ++ [x], _, rfl, by rw [upd_same, List.map_append]; rfl, by rw [upd_ne nr.symm]; exact hR4, by rw [List.length_append, hl3]; rfl, ?_, fun z mz => ?_, ?_, ?_⟩
    · refine List.nodup_append.mpr ⟨nd3, by simp, fun y my z mz => ?_⟩
      rw [List.mem_singleton.mp mz]
      exact fun e => nx (by rw [← e]; exact my)
    · rcases List.mem_append.mp mz with mz | mz
      · exact hx3 z mz
      · rw [List.mem_singleton.mp mz]
        exact ⟨wx, tx⟩
    · obtain ⟨a, b, c, e⟩ := w4
      exact ⟨a, b, c, by rw [upd_ne nmw.symm]; exact e⟩
    · intro b o nb e
      rw [upd_ne (ne_of_none e hnm)]
      exact b4 b o nb e
  · rintro σ H3 ⟨xs, c4, rfl, hN3, hR3, hl3, nd3, hx3, w3', b3⟩
    have len1 : 1 ≤ xs.length := by omega
    have len4 : xs.length ≤ 4 := by omega
    refine ⟨_, rfl, nm, xs, rfl, SqL.of hN3, fun ys p hp hu hn => ?_⟩
    have s4 := same_new hn (.lst (ys.map V.str))
    have npw : p ≠ wl := fun z => by rw [z] at hn; exact well_ne w3' hn
    have nprl : rl ≠ p := fun z => by rw [z] at hR3; rw [hR3] at hn; cases hn
    have hN4 : upd H3 p (.lst (ys.map V.str)) nm = _ := s4 _ _ hN3
    have hR4 : upd H3 p (.lst (ys.map V.str)) rl = _ := s4 _ _ hR3
    have hP4 : upd H3 p (.lst (ys.map V.str)) p = some (.lst (ys.map V.str)) := upd_same
    have w4 := well_same w3' s4
    have b4 := b3.trans (.of s4)
    have g4 : Gr wl G H G _ := Gr.stay st w4 b4
    generalize upd H3 p (.lst (ys.map V.str)) = H4 at hN4 hR4 hP4 w4 b4 g4 ⊢
    have ndy : ys.Nodup := hp.symm.nodup nd3
    have up := up_less hu ndy
    have lenY : ys.length = xs.length := hp.length_eq
    have gR : G rl = none := st.sub.free rlH
    refine ⟨p, rfl, ⟨_, SqL.of hP4⟩, ?_⟩
    refine for_it (walk_list (xs := ys.map V.str)) (fun i σ H' => ∃ G' zs es c, σ = [some (.ref wl), some (.int 5), some (.ref nm), some (.ref rl), c4, c] ∧ Gr wl G H G' H' ∧ G' rl = none ∧ H' rl = some (.lst zs) ∧ H' p = some (.lst (ys.map V.str)) ∧ H' nm = some (.lst (xs.map V.str)) ∧ DqAll K G' zs es ∧ zs.length = i ∧ es.map rowN = ys.take i ∧ RowsB ys es)
      ⟨G, [], [], none, rfl, g4, gR, hR4, hP4, hN4, .nil, rfl, rfl, fun _ h => (nomatch h)⟩ (fun i σ H' _ ⟨G', zs, es, c, _, _, _, _, z, _⟩ => SqL.of z) ?_ ?_
    · rintro i y σ H5 H6 hi ⟨G5, zs, es, c, rfl, g5, gf5, hf5, hp5, hn5, hE, hzl, hnmE, hrw⟩ ⟨rfl, hy⟩
      obtain ⟨x, hx, rfl⟩ : ∃ x, ys[i]? = some x ∧ V.str x = y := by
        rw [List.getElem?_map] at hy
        cases z : ys[i]? with
        | none => rw [z] at hy; cases hy
        | some x => rw [z] at hy; exact ⟨x, rfl, Option.some.inj hy⟩
      have mxy := List.mem_of_getElem? hx
      have mx : x ∈ xs := hp.mem_iff.mp mxy
      obtain ⟨hwx, htx⟩ := hx3 x mx
      have st5 := g5.stt st
      refine ⟨_, rfl, .inl ⟨rfl, _, SqL.of hf5⟩, _, rfl, _, rfl, _, rfl, _, rfl, _, rfl, wl, nm, G5, xs, x, rfl, st5, hn5, nmw, len1, by omega, (fun z m => (hx3 z m).2.1), mx, fun v7 H7 G7 d7 g7 D7 t7 => ?_⟩
      refine ⟨z3 (by show 2 ≤ 20; decide), fun p9 ob hp9 hob => ?_⟩
      obtain ⟨g8, D8⟩ := Gr.tup (K := K) (vs := [.str x, v7]) (ds := [.str x, d7]) (g7.stt st5) hp9 hob (.cons (.str _) (.cons D7 .nil))
      have g78 := g7.trans g8
      have hf8 := g78.lst rlw hf5
      have hp8 := g78.lst npw hp5
      have hn8 := g78.lst nmw hn5
      have gf8 := g78.off gf5 (by rw [hf5]; exact fun z => nomatch z)
      rw [List.length_map] at hi
      refine ⟨rl, zs, _, rfl, rfl, hf8, z4 (by omega), ?_⟩
      refine ⟨_, zs ++ [.ref p9], es ++ [.tuple [.str x, d7]], _, rfl, (g5.trans g78).ownL rlH gf8 rlw _, gf8, upd_same, by rw [upd_ne nprl.symm]; exact hp8, by rw [upd_ne nr]; exact hn8, (DqAll.mono g78.gg _ _ hE).append (.cons D8 .nil), by rw [List.length_append, hzl]; rfl, ?_, fun r mr => ?_⟩
      · rw [List.map_append, hnmE, List.take_add_one, hx]
        rfl
      · rcases List.mem_append.mp mr with mr | mr
        · exact hrw r mr
        · rw [List.mem_singleton.mp mr]
          have ty := t7.ok (ok' := (· ∈ ys)) fun z m => hp.mem_iff.mpr m
          have gd := kt_gd (fun z m => (hx3 z (hp.mem_iff.mp m)).2) ty
          exact ⟨x, d7, rfl, hwx, htx, ty, gd.up (Nat.le_refl _) (by decide) (Nat.le_refl _)⟩
    · rintro σ H5 ⟨G5, zs, es, c, rfl, g5, gf5, hf5, hp5, hn5, hE, hzl, hnmE, hrw⟩
      rw [List.length_map, List.take_length] at hnmE
      refine ⟨_, rfl, rl, zs, rfl, .inl ⟨SqL.of hf5, fun p9 ob hp9 hob => ?_⟩⟩
      obtain ⟨g6, D6⟩ := Gr.tup (K := K) (vs := zs) (ds := es) (g5.stt st) hp9 hob hE
      exact q _ _ _ ys es (g5.trans g6) D6 ⟨hnmE, hrw, up, (fun z => by rw [z] at lenY; simp only [List.length_nil] at lenY; omega), by omega⟩
end
end Toy
set_option Elab.async false
set_option linter.all false
set_option maxRecDepth 100000
set_option maxHeartbeats 4000000
namespace Toy
open PySem L2 PyProof.Rows
/-! ### the law's names and kinds by a hole -/
abbrev sNameBy : Stmt := top 71
abbrev sBy : Stmt := top 72
abbrev lTun : List Str := ["thing", "unit", "none"]
section
variable {P : Program} {w : World} {K : PySem.W.Frag} {mg : Str → Option Value} {base : Heap}
theorem scNb : FnScope ["name", "gap"] ["name", "gap"] (defScope sNameBy) := ⟨rfl, rfl, rfl, by decide +kernel, rfl, by decide +kernel, by decide +kernel⟩
theorem ok_nameby {f : Addr} {fd : FuncData} (F : Fun K "_law_name_by" "_law_name_by" sNameBy f fd) : FnOk P w K mg base CX0 1 f fd ["name", "gap"] (spCal K) := by
  refine F.ok scNb (fun vs H Q E h => ?_) (fun cdv A outer s H vs Q E hr h => ?_)
  · obtain ⟨x, u, ho, rfl, _⟩ := h
    rfl
  obtain ⟨x, u, ho, rfl, hu, tx, tl, q⟩ := h
  refine ⟨_, pss_one (ps_ret (pe_op op_add_str (pe_op op_add_str (pv 0) pe_str) (pe_ifExp (pt_cmpR op_eq (pe_ix ix_tup (pv 1) pe_int (fun _ _ => rfl)) pe_str (nomark _)) (pe_ix ix_tup (pv 1) pe_int (fun _ _ => rfl)) pe_str))), ?_⟩
  have z3 : ∀ {k : Nat}, k ≤ 4500 → k ≤ sizeLine := fun h => Nat.le_trans h (by decide)
  have l1 := tx.2
  have l2 := tl.2
  have lq := quo_ok.2
  have l3 := (txt_app tx quo_ok).2
  refine ⟨_, rfl, x, quo, rfl, rfl, z3 (by omega), ?_⟩
  cases ho with
  | th =>
    obtain ⟨ad, xs, rfl, hx, hA⟩ := dq_tuple hu
    obtain ⟨x0, rs, rfl, g0, hA⟩ := dqAll_cons hA
    cases g0
    refine ⟨_, rfl, ad, _, 0, _, rfl, rfl, hx, atI_nat (j := 0) rfl, rfl, _, rfl, ?_⟩
    refine iteF ⟨x ++ quo, _, rfl, rfl, z3 (by have : (("" : Str)).length = 0 := by decide +kernel
                                               omega), ?_⟩
    exact q
  | nm y =>
    obtain ⟨ad, xs, rfl, hx, hA⟩ := dq_tuple hu
    obtain ⟨x0, rs, rfl, g0, hA⟩ := dqAll_cons hA
    obtain ⟨x1, rs, rfl, g1, hA⟩ := dqAll_cons hA
    cases g0
    cases g1
    refine ⟨_, rfl, ad, _, 0, _, rfl, rfl, hx, atI_nat (j := 0) rfl, rfl, _, rfl, ?_⟩
    refine iteT ⟨_, rfl, ad, _, 1, _, rfl, rfl, hx, atI_nat (j := 1) rfl, ?_⟩
    exact ⟨x ++ quo, y, rfl, rfl, z3 (by have l2' : y.length ≤ 2000 := l2
                                         omega), q⟩
theorem scBy : FnScope ["form", "gap", "lead", "last"] ["form", "gap"] (defScope sBy) := ⟨rfl, rfl, rfl, by decide +kernel, rfl, by decide +kernel, by decide +kernel⟩
theorem ok_by {f fC : Addr} {fd dC : FuncData} {n k : Nat} (hk : 1 ≤ k) (F : Fun K "_law_by" "_law_by" sBy f fd) (C : Gv P w K mg base 1 "_law_name_by" fC dC ["name", "gap"] (spCal K)) (R : Gv P w K mg base k "_law_by" f fd ["form", "gap"] (spMb K n)) :
    FnOk P w K mg base CX0 (k + 1) f fd ["form", "gap"] (spMb K (n + 1)) := by
  refine F.ok scBy (fun vs H Q E h => ?_) (fun cdv A outer s H vs Q E hr h => ?_)
  · obtain ⟨G, v, u, d, ho, rfl, _⟩ := h
    rfl
  obtain ⟨G, v, u, d, ho, rfl, sG, hv, fm, tx, dd, hu, tl, q⟩ := h
  have hr1 : Room 1 (A.deeper _) := hr.mono (by omega)
  refine ⟨_, (pss_cons (ps_if (pt_cmpR (op_eqD hr.units) (pv 0) (pv 1) (nomark _)) (pss_one (ps_ret (pe_ifExp (pt_cmpR op_eq (pe_ix ix_tup (pv 1) pe_int (fun _ _ => rfl)) pe_str (nomark _)) (pe_tupN (pa_cons pe_str pa_nil)) (pe_tupN (pa_cons pe_str (pa_cons (pe_tupN (pa_cons pe_str pa_nil)) (pa_cons (pe_tupN (pa_cons pe_str (pa_cons (pe_call C.ok hr1 rfl C.m C.k C.b .nil pass0 (pa_cons (pe_ix ix_tup (pv 1) pe_int (fun _ _ => rfl)) (pa_cons (pv 1) pa_nil))) pa_nil))) pa_nil))))))) pss_nil)
    (pss_cons (ps_if (pt_cmpR op_in_seq (pe_ix ix_tup (pv 0) pe_int (fun _ _ => rfl)) (pe_tup (pa_cons pe_str (pa_cons pe_str (pa_cons pe_str pa_nil)))) (by rfl)) (pss_one (ps_ret (pe_tupN (pa_cons pe_str pa_nil)))) pss_nil)
    (pss_cons (ps_if (pt_cmpR op_eq (pe_ix ix_tup (pv 0) pe_int (fun _ _ => rfl)) pe_str (nomark _)) (pss_one (ps_ret (pe_tupN (pa_cons pe_str (pa_cons (pe_call C.ok hr1 rfl C.m C.k C.b .nil pass0 (pa_cons (pe_ix ix_tup (pv 0) pe_int (fun _ _ => rfl)) (pa_cons (pv 1) pa_nil))) pa_nil))))) pss_nil)
    (pss_cons (ps_par (i := 2) (j := 3) rfl scBy.nd rfl rfl (by decide) rfl rfl (pa_cons (pe_call R.ok hr rfl R.m R.k R.b .nil pass0 (pa_cons (pe_ix ix_tup (pv 0) pe_int (fun _ _ => rfl)) (pa_cons (pv 1) pa_nil))) (pa_cons (pe_call R.ok hr rfl R.m R.k R.b .nil pass0 (pa_cons (pe_ix ix_tup (pv 0) pe_int (fun _ _ => rfl)) (pa_cons (pv 1) pa_nil))) pa_nil)) (by rfl))
    (pss_cons (ps_if (pt_cmpR op_eq (pe_ix ix_tup (pv 0) pe_int (fun _ _ => rfl)) pe_str (nomark _)) (pss_one (ps_ret (pe_tupN (pa_cons pe_str (pa_cons (pv 2) (pa_cons (pv 3) pa_nil)))))) pss_nil)
    (pss_one (ps_ret (pe_tupN (pa_cons pe_str (pa_cons (pe_tupN (pa_cons pe_str (pa_cons (pv 2) (pa_cons (pe_ix ix_tup (pv 0) pe_int (fun _ _ => rfl)) pa_nil)))) (pa_cons (pe_tupN (pa_cons pe_str (pa_cons (pe_ix ix_tup (pv 0) pe_int (fun _ _ => rfl)) (pa_cons (pv 3) pa_nil)))) pa_nil))))))))))), ?_⟩
  have z3 : ∀ {k : Nat}, k ≤ 20 → k ≤ sizeLine := fun h => Nat.le_trans h (by decide)
  have sd := fB_st _ _ fm tx
  have hv1 := Dq.mono sG _ _ hv
  have hu1 := Dq.mono sG _ _ hu
  refine ⟨_, rfl, _, rfl, d, hoD ho, Dq.dp _ _ sd hv1, Dq.dp _ _ (hoD_st tl) hu1, shp sd (by omega), shp (hoD_st tl) (hoD_depth ho), _, rfl, ?_⟩
  cases e : PyData.eqv d (hoD ho) with
  | true =>
    rw [kmd_hol _ _ _ e] at q
    cases ho with
    | th =>
      obtain ⟨ad, xs, rfl, hx, hA⟩ := dq_tuple hu
      obtain ⟨x0, rs, rfl, g0, hA⟩ := dqAll_cons hA
      cases g0
      refine iteT ⟨_, rfl, ad, _, 0, _, rfl, rfl, sG.seqT hx, atI_nat (j := 0) rfl, rfl, _, rfl, ?_⟩
      refine iteT ⟨z3 (by show 1 ≤ 20; decide), fun t ob ht hob => ?_⟩
      obtain ⟨n1, D1⟩ := Fx.row0 (K := K) (w := "unit") sG ht hob
      exact q _ _ _ n1 D1
    | nm y =>
      obtain ⟨ad, xs, rfl, hx, hA⟩ := dq_tuple hu
      obtain ⟨x0, rs, rfl, g0, hA⟩ := dqAll_cons hA
      obtain ⟨x1, rs, rfl, g1, hA⟩ := dqAll_cons hA
      cases g0
      cases g1
      refine iteT ⟨_, rfl, ad, _, 0, _, rfl, rfl, sG.seqT hx, atI_nat (j := 0) rfl, rfl, _, rfl, ?_⟩
      refine iteF ⟨z3 (by show 1 ≤ 20; decide), fun t1 o1 h1 e1 => ?_⟩
      obtain ⟨n1, D1⟩ := Fx.row0 (K := K) (w := "unit") sG h1 e1
      refine ⟨_, rfl, ad, _, 1, _, rfl, rfl, n1.hh.seqT (sG.seqT hx), atI_nat (j := 1) rfl, _, rfl, y, .ref ad, .nm y, rfl, Dq.mono n1.hh _ _ hu1, ho_up tl, ho_up tl, ?_⟩
      refine ⟨z3 (by show 2 ≤ 20; decide), fun t2 o2 h2 e2 => ?_⟩
      obtain ⟨n2, D2⟩ := Fx.row1 (K := K) (w := "name") (v := .str (calD y (.nm y))) n1.gh h2 e2 (.str _)
      refine ⟨z3 (by show 3 ≤ 20; decide), fun t3 o3 h3 e3 => ?_⟩
      obtain ⟨n3, D3⟩ := Fx.row2 (K := K) (w := "either") n2.gh h3 e3 (Dq.mono n2.gg _ _ D1) D2
      exact q _ _ _ ((n1.trans n2).trans n3) D3
  | false =>
    have e' : ¬ PyData.eqv d (hoD ho) = true := by rw [e]; exact Bool.false_ne_true
    refine iteF ?_
    rcases fB_cases fm with ⟨w, rfl, hw⟩ | ⟨w, x, rfl, hw, _⟩ | ⟨m, w, a, b, en, rfl, hw, ha, hb⟩
    · obtain ⟨ad, xs, rfl, hx, hA⟩ := dq_tuple hv1
      obtain ⟨x0, rs, rfl, g0, hA⟩ := dqAll_cons hA
      cases g0
      rw [kmd_one _ _ _ e'] at q
      have yes : inV (V.str w) (lTun.map V.str) = true := by rcases w_three hw with rfl | rfl | rfl <;> decide +kernel
      refine ⟨_, rfl, ad, _, 0, _, rfl, rfl, hx, atI_nat (j := 0) rfl, z3 (by show 3 ≤ 20; decide), fun tt htt => ?_⟩
      have n0 := Fx.same sG (same_new htt (.tup (lTun.map V.str)))
      refine ⟨tt, _, rfl, .inr (SqT.of upd_same), rfl, flat_strs lTun, _, rfl, ?_⟩
      show if inV (V.str w) (lTun.map V.str) = true then _ else _
      rw [yes]
      refine iteT ⟨z3 (by show 1 ≤ 20; decide), fun t ob ht hob => ?_⟩
      obtain ⟨n1, D1⟩ := Fx.row0 (K := K) (w := "none") n0.gh ht hob
      exact q _ _ _ (n0.trans n1) D1
    · have hw' := w_one hw
      injection hw' with hw'
      subst hw'
      have tt : (txtB (.str "name") && (txtB (.str x) && true)) = true := tx
      simp only [Bool.and_eq_true] at tt
      have tx' : (PyData.strOk x && decide (x.length ≤ 2000)) = true := tt.2.1
      rw [Bool.and_eq_true, decide_eq_true_eq] at tx'
      obtain ⟨ad, xs, rfl, hx, hA⟩ := dq_tuple hv1
      obtain ⟨x0, rs, rfl, g0, hA⟩ := dqAll_cons hA
      obtain ⟨x1, rs, rfl, g1, hA⟩ := dqAll_cons hA
      cases g0
      cases g1
      rw [kmd_nam _ _ _ _ e'] at q
      refine ⟨_, rfl, ad, _, 0, _, rfl, rfl, hx, atI_nat (j := 0) rfl, z3 (by show 3 ≤ 20; decide), fun t0 h0 => ?_⟩
      have n0 := Fx.same sG (same_new h0 (.tup (lTun.map V.str)))
      have no : inV (V.str "name") (lTun.map V.str) = false := by decide +kernel
      refine ⟨t0, _, rfl, .inr (SqT.of upd_same), rfl, flat_strs lTun, _, rfl, ?_⟩
      show if inV (V.str "name") (lTun.map V.str) = true then _ else _
      rw [no]
      have hx0 := n0.hh.seqT hx
      have hu0 := Dq.mono n0.hh _ _ hu1
      refine iteF ⟨_, rfl, ad, _, 0, _, rfl, rfl, hx0, atI_nat (j := 0) rfl, rfl, _, rfl, ?_⟩
      refine iteT ⟨_, rfl, ad, _, 1, _, rfl, rfl, hx0, atI_nat (j := 1) rfl, _, rfl, x, u, ho, rfl, hu0, tx', ho_up tl, ?_⟩
      refine ⟨z3 (by show 2 ≤ 20; decide), fun t ob ht hob => ?_⟩
      obtain ⟨n1, D1⟩ := Fx.row1 (K := K) (w := "name") (v := .str (calD x ho)) n0.gh ht hob (.str _)
      exact q _ _ _ (n0.trans n1) D1
    · have en' : n = m := by omega
      subst en'
      have tt : (txtB (.str w) && (txtB a && (txtB b && true))) = true := tx
      simp only [Bool.and_eq_true] at tt
      rw [depth_row] at dd
      rw [kmd_row _ _ _ _ _ e'] at q
      obtain ⟨ad, xs, rfl, hxG, hA⟩ := dq_tuple hv
      obtain ⟨x0, rs, rfl, g0, hA⟩ := dqAll_cons hA
      obtain ⟨x1, rs, rfl, g1, hA⟩ := dqAll_cons hA
      obtain ⟨x2, rs, rfl, g2, hA⟩ := dqAll_cons hA
      cases g0
      have hx := sG.seqT hxG
      have no : inV (V.str w) (lTun.map V.str) = false := by rcases w_two hw with z | z <;> rw [z] <;> decide +kernel
      have no1 : decide (V.str w = V.str "name") = false := by rcases w_two hw with z | z <;> rw [z] <;> decide +kernel
      refine ⟨_, rfl, ad, _, 0, _, rfl, rfl, hx, atI_nat (j := 0) rfl, z3 (by show 3 ≤ 20; decide), fun t0 h0 => ?_⟩
      have n0 := Fx.same sG (same_new h0 (.tup (lTun.map V.str)))
      refine ⟨t0, _, rfl, .inr (SqT.of upd_same), rfl, flat_strs lTun, _, rfl, ?_⟩
      show if inV (V.str w) (lTun.map V.str) = true then _ else _
      rw [no]
      refine iteF ⟨_, rfl, ad, _, 0, _, rfl, rfl, n0.hh.seqT hx, atI_nat (j := 0) rfl, rfl, _, rfl, ?_⟩
      rw [no1]
      refine iteF ⟨_, rfl, ad, _, 1, _, rfl, rfl, n0.hh.seqT hx, atI_nat (j := 1) rfl, _, rfl, G, x1, u, a, ho, rfl, n0.gh, g1, ha, tt.2.1, by omega, hu, tl, fun y1 H1 G1 n1 D1 => ?_⟩
      have n01 := n0.trans n1
      refine ⟨_, rfl, ad, _, 2, _, rfl, rfl, n01.hh.seqT hx, atI_nat (j := 2) rfl, _, rfl, G1, x2, u, b, ho, rfl, n01.gh, Dq.mono n01.gg _ _ g2, hb, tt.2.2.1, by omega, Dq.mono n01.gg _ _ hu, tl, fun y2 H2 G2 n2 D2 => ?_⟩
      have n02 := n01.trans n2
      have hx2 := n02.hh.seqT hx
      refine ⟨_, _, rfl, ?_⟩
      refine ⟨_, rfl, ad, _, 0, _, rfl, rfl, hx2, atI_nat (j := 0) rfl, rfl, _, rfl, ?_⟩
      rcases w_two hw with z | z
      · injection z with z
        subst z
        have en1 : wE "pair" = false := by decide +kernel
        rw [en1, if_neg Bool.false_ne_true] at q
        have no2 : decide (V.str "pair" = V.str "either") = false := by decide +kernel
        rw [no2]
        refine iteF ⟨_, rfl, _, rfl, ad, _, 2, _, rfl, rfl, hx2, atI_nat (j := 2) rfl, z3 (by show 3 ≤ 20; decide), fun t1 o1 h1 e1 => ?_⟩
        obtain ⟨n3, D3⟩ := Fx.row2 (K := K) (w := "pair") n02.gh h1 e1 (Dq.mono n2.gg _ _ D1) (Dq.mono n02.gg _ _ g2)
        have n03 := n02.trans n3
        refine ⟨_, rfl, ad, _, 1, _, rfl, rfl, n03.hh.seqT hx, atI_nat (j := 1) rfl, _, rfl, z3 (by show 3 ≤ 20; decide), fun t2 o2 h2 e2 => ?_⟩
        obtain ⟨n4, D4⟩ := Fx.row2 (K := K) (w := "pair") n03.gh h2 e2 (Dq.mono n03.gg _ _ g1) (Dq.mono n3.gg _ _ D2)
        have n04 := n03.trans n4
        refine ⟨z3 (by show 3 ≤ 20; decide), fun t3 o3 h3 e3 => ?_⟩
        obtain ⟨n5, D5⟩ := Fx.row2 (K := K) (w := "either") n04.gh h3 e3 (Dq.mono n4.gg _ _ D3) D4
        exact q _ _ _ (n04.trans n5) D5
      · injection z with z
        subst z
        have en1 : wE "either" = true := by decide +kernel
        rw [en1, if_pos rfl] at q
        refine iteT ⟨_, rfl, _, rfl, z3 (by show 3 ≤ 20; decide), fun t1 o1 h1 e1 => ?_⟩
        obtain ⟨n3, D3⟩ := Fx.row2 (K := K) (w := "either") n02.gh h1 e1 (Dq.mono n2.gg _ _ D1) D2
        exact q _ _ _ (n02.trans n3) D3
theorem none_leftBy {f : Addr} {fd : FuncData} {k : Nat} : FnOk P w K mg base CX0 k f fd ["form", "gap"] (spMb K 0) := ⟨fun _ _ _ _ h => by
    obtain ⟨G, v, u, d, ho, rfl, _⟩ := h
    rfl, fun _ _ _ _ _ _ _ _ _ _ _ _ _ h => by
    obtain ⟨G, v, u, d, ho, _, _, _, f, _⟩ := h
    cases f⟩
theorem bys {f fC : Addr} {fd dC : FuncData} (F : Fun K "_law_by" "_law_by" sBy f fd) (bF : Binds K fd ["form", "gap"] []) (mF : mg "_law_by" = some (.ref f)) (C : Gv P w K mg base 1 "_law_name_by" fC dC ["name", "gap"] (spCal K)) :
    ∀ n : Nat, Gv P w K mg base (1 + n) "_law_by" f fd ["form", "gap"] (spMb K n)
  | 0 => ⟨none_leftBy, bF, F.kp, mF⟩
  | n + 1 => ⟨ok_by (n := n) (k := 1 + n) (by omega) F C (bys F bF mF C n), bF, F.kp, mF⟩
end
end Toy
set_option Elab.async false
set_option linter.all false
set_option maxRecDepth 100000
set_option maxHeartbeats 4000000
namespace Toy
open PySem L2 PyProof.Rows
abbrev sGap : Stmt := top 70
def spGp (K : PySem.W.Frag) : Sp := fun vs H Q _ => ∃ (wl l : Addr) (G : Hp) (xs : List Str), vs = [.ref wl, .ref l] ∧ Stt wl G H ∧ H l = some (.lst (xs.map V.str)) ∧ l ≠ wl ∧ 1 ≤ xs.length ∧ xs.length ≤ 1000 ∧
  ∀ (v : V) (H' G' : Hp) (h : Ho), Gr wl G H G' H' → Dq K G' v (hoD h) → (∀ y, h = .nm y → y ∈ xs) → Q v H'
def spPt (K : PySem.W.Frag) (n : Nat) : Sp := fun vs H Q _ => ∃ (v : V) (d : PyData), vs = [v] ∧ Dq K H v d ∧ fB n d = true ∧ ∀ H', Same H H' → Q (.int ((ms n d).2.1 : Nat)) H'
section
variable {P : Program} {w : World} {K : PySem.W.Frag} {mg : Str → Option Value} {base : Heap}
theorem scGp : FnScope ["spring", "names"] ["spring", "names"] (defScope sGap) := ⟨rfl, rfl, rfl, by decide +kernel, rfl, by decide +kernel, by decide +kernel⟩
theorem ok_gap {f gD gP : Addr} {fd dD dP : FuncData} (F : Fun K "_law_gap" "_law_gap" sGap f fd) (D : Gv P w K mg base 1 "_law_draw" gD dD ["spring", "top"] spDraw) (PT' : Gv P w K mg base 2 "_law_pick" gP dP ["spring", "some"] (spPick K)) (PL : FnOk P w K mg base CX0 2 gP dP ["spring", "some"] (spPickL K)) : FnOk P w K mg base CX0 3 f fd ["spring", "names"] (spGp K) := by
  refine F.ok scGp (fun vs H Q E h => ?_) (fun cdv A outer s H vs Q E hr h => ?_)
  · obtain ⟨wl, l, G, xs, rfl, _⟩ := h
    rfl
  obtain ⟨wl, l, G, xs, rfl, st, hl, nl, h1, hz, q⟩ := h
  have hr1 : Room 1 (A.deeper _) := hr.mono (by omega)
  refine ⟨_, (pss_one (ps_ret (pe_ifExp (pt_cmpR op_eq (pe_call D.ok hr1 rfl D.m D.k D.b .nil pass0 (pa_cons (pv 0) (pa_cons pe_int pa_nil))) pe_int (nomark _)) (pe_tupN (pa_cons pe_str pa_nil)) (pe_tupN (pa_cons pe_str (pa_cons (pe_call PL hr rfl PT'.m PT'.k PT'.b .nil pass0 (pa_cons (pv 0) (pa_cons (pv 1) pa_nil))) pa_nil)))))), ?_⟩
  have z3 : ∀ {k : Nat}, k ≤ 20 → k ≤ sizeLine := fun h => Nat.le_trans h (by decide)
  refine ⟨_, rfl, wl, 2, rfl, by decide, by decide, st.well, fun d0 H1 _ _ w1 e1 => ⟨rfl, _, rfl, ?_⟩⟩
  have g1 := Gr.stay st w1 e1
  have st1 := g1.stt st
  have hl1 := g1.lst nl hl
  refine ite2 (fun _ => ?_) (fun _ => ?_)
  · refine ⟨z3 (by show 1 ≤ 20; decide), fun p ob hp hob => ?_⟩
    obtain ⟨g2, D2⟩ := Gr.tup (K := K) (vs := [.str "thing"]) (ds := [.str "thing"]) st1 hp hob (.cons (.str _) .nil)
    exact q _ _ _ .th (g1.trans g2) D2 (fun y e => nomatch e)
  · refine ⟨_, rfl, _, rfl, wl, l, xs.map V.str, rfl, w1, SqL.of hl1, nl, by rw [List.length_map]; exact h1, by rw [List.length_map]; omega, fun v H2 hv w2 e2 => ⟨z3 (by show 2 ≤ 20; decide), fun p ob hp hob => ?_⟩⟩
    obtain ⟨y, my, rfl⟩ := strs_of hv
    have g2 := g1.trans (Gr.stay st1 w2 e2)
    obtain ⟨g3, D3⟩ := Gr.tup (K := K) (vs := [.str "name", .str y]) (ds := [.str "name", .str y]) (g2.stt st) hp hob (.cons (.str _) (.cons (.str _) .nil))
    exact q _ _ _ (.nm y) (g2.trans g3) D3 (fun z e => by injection e with e; rw [← e]; exact my)
theorem none_leftPt {f : Addr} {fd : FuncData} {k : Nat} : FnOk P w K mg base CX0 k f fd ["form"] (spPt K 0) := ⟨fun _ _ _ _ h => by
    obtain ⟨v, d, rfl, _⟩ := h
    rfl, fun _ _ _ _ _ _ _ _ _ _ _ _ _ h => by
    obtain ⟨v, d, _, _, f, _⟩ := h
    cases f⟩
end
end Toy
set_option Elab.async false
set_option linter.all false
set_option maxRecDepth 100000
set_option maxHeartbeats 4000000
namespace Toy
open PySem L2 PyProof.Rows
abbrev sLibBy : Stmt := top 73
theorem paired_vals {K : PySem.W.Frag} {H : Hp} : ∀ {kvs : List (Key × V)} {l : List (Str × PyData)}, Paired (TabR K H) kvs l → (kvs.map fun kv => kV kv.1) = (l.map (·.1)).map V.str
  | [], [], _ => rfl
  | (a, v) :: kvs, p :: l, .cons h t => by
    have e := paired_vals t
    have hk : a = Sum.inr p.1 := h.1
    rw [List.map_cons, List.map_cons, List.map_cons, e, hk]
    rfl
/-! ### a book by a hole is one and no other -/
theorem sorted_ext : ∀ {xs ys : List PyData}, (xs.Pairwise fun r s => lessS (rowN r) (rowN s) = true) → (ys.Pairwise fun r s => lessS (rowN r) (rowN s) = true) → (∀ r, r ∈ xs ↔ r ∈ ys) → xs = ys
  | [], [], _, _, _ => rfl
  | [], y :: ys, _, _, h => by cases (h y).mpr List.mem_cons_self
  | x :: xs, [], _, _, h => by cases (h x).mp List.mem_cons_self
  | x :: xs, y :: ys, hx, hy, h => by
    obtain ⟨x1, x2⟩ := List.pairwise_cons.mp hx
    obtain ⟨y1, y2⟩ := List.pairwise_cons.mp hy
    have no : ∀ {a b : PyData}, lessS (rowN a) (rowN b) = true → lessS (rowN b) (rowN a) = true → False := fun p q => less_ne (less_trans p q) rfl
    have e : x = y := by
      rcases List.mem_cons.mp ((h x).mp List.mem_cons_self) with e | m
      · exact e
      · rcases List.mem_cons.mp ((h y).mpr List.mem_cons_self) with e | m2
        · exact e.symm
        · exact (no (y1 _ m) (x1 _ m2)).elim
    subst e
    rw [sorted_ext x2 y2 fun r => ⟨fun m => ?_, fun m => ?_⟩]
    · rcases List.mem_cons.mp ((h r).mp (List.mem_cons_of_mem _ m)) with e | m2
      · exact (less_ne (x1 _ m) (by rw [e])).elim
      · exact m2
    · rcases List.mem_cons.mp ((h r).mpr (List.mem_cons_of_mem _ m)) with e | m2
      · exact (less_ne (y1 _ m) (by rw [e])).elim
      · exact m2
theorem byH_sub {ds a b : List PyData} {h : Ho} (x : ByH ds a h) (y : ByH ds b h) : ∀ r ∈ a, r ∈ b := fun r m => by
  obtain ⟨z, v, rfl, o | ⟨w, k, l, rfl, rfl⟩⟩ := x.rows r m
  · obtain ⟨p, mp, e1, e2⟩ := look_mem (y.old _ _ o)
    obtain ⟨r', mr, rfl⟩ := List.mem_map.mp mp
    obtain ⟨z', v', rfl, _⟩ := y.rows r' mr
    have e1' : z' = z := e1
    have e2' : v' = v := e2
    rw [← e1', ← e2']
    exact mr
  · obtain ⟨p, mp, e1, e2⟩ := look_mem (y.new _ _ l)
    obtain ⟨r', mr, rfl⟩ := List.mem_map.mp mp
    obtain ⟨z', v', rfl, _⟩ := y.rows r' mr
    have e1' : z' = calD w h := e1
    have e2' : v' = kmd 30 k h := e2
    rw [← e1', ← e2']
    exact mr
theorem byH_one {ds a b : List PyData} {h : Ho} (x : ByH ds a h) (y : ByH ds b h) : a = b := sorted_ext x.up y.up fun r => ⟨byH_sub x y r, byH_sub y x r⟩
def spLy (K : PySem.W.Frag) : Sp := fun vs H Q _ => ∃ (wl : Addr) (G : Hp) (v u : V) (ds : List PyData) (j : Nat) (h : Ho), vs = [v, u] ∧ Stt wl G H ∧ Dq K G v (.tuple ds) ∧ BookL j ds ∧ j ≤ 2 ∧ Dq K G u (hoD h) ∧ HoW h ∧ (∀ y0, h = .nm y0 → (lookB (bkOf (.tuple ds)) y0).isSome = true) ∧
  ∀ (v' : V) (H' G' : Hp) (ds' : List PyData), Gr wl G H G' H' → Dq K G' v' (.tuple ds') → ByH ds ds' h → Q v' H'
section
variable {P : Program} {w : World} {K : PySem.W.Frag} {mg : Str → Option Value} {base : Heap}
theorem scLy : FnScope ["lib", "gap", "table", "name", "form"] ["lib", "gap"] (defScope sLibBy) := ⟨rfl, rfl, rfl, by decide +kernel, rfl, by decide +kernel, by decide +kernel⟩
theorem ok_libby {f gC gM : Addr} {fd dC dM : FuncData} (F : Fun K "_law_lib_by" "_law_lib_by" sLibBy f fd) (TU : mg "tuple" = none) (SG : mg "sorted" = none) (LI : mg "list" = none) (CL : Gv P w K mg base 1 "_law_name_by" gC dC ["name", "gap"] (spCal K)) (MB : Gv P w K mg base 31 "_law_by" gM dM ["form", "gap"] (spMb K 30)) : FnOk P w K mg base CX0 32 f fd ["lib", "gap"] (spLy K) := by
  refine F.ok scLy (fun vs H Q E h => ?_) (fun cdv A outer s H vs Q E hr h => ?_)
  · obtain ⟨wl, G, v, u, ds, j, h, rfl, _⟩ := h
    rfl
  obtain ⟨wl, G, v, u, ds, j, h, rfl, st, hd, b, hj, hu, kw, hin, q⟩ := h
  have hr1 : Room 1 (A.deeper _) := hr.mono (by omega)
  have hu1 := Nat.lt_of_le_of_lt (Nat.add_le_add_left (by decide : 1 ≤ 64) _) hr.units
  refine ⟨_, pss_cons (ps_set (i := 2) scLy.nd rfl (.inr rfl) pe_dnewK)
    (pss_cons (ps_for PassesOwn.never rfl (pi_tup (pv 0)) (pg_tup rfl (pgs_cons (pg_name (i := 3) scLy.nd rfl (.inl rfl)) (pgs_cons (pg_name (i := 4) scLy.nd rfl (.inl rfl)) pgs_nil))) (pss_cons (ps_dput hu1 (pv 2) (pv 3) (pv 4) rfl)
    (pss_one (ps_dput hu1 (pv 2) (pe_call CL.ok hr1 rfl CL.m CL.k CL.b .nil pass0 (pa_cons (pv 3) (pa_cons (pv 1) pa_nil))) (pe_call MB.ok hr rfl MB.m MB.k MB.b .nil pass0 (pa_cons (pv 4) (pa_cons (pv 1) pa_nil))) rfl))))
    (pss_one (ps_ret (pe_callTy call_tupleN rfl TU (by decide +kernel) (pa_cons (pe_lc (own := [("name", 3)]) (g := gName 3) (tt := tYes) (te := tTupN (tCons (tVar 3) (tCons (tDGet (tVar 2) (tVar 3)) tNil))) rfl scLy.nd (pi_list (pe_callB cr_sortedX rfl SG (by decide +kernel) (pa_cons (pe_callTy (call_listD rfl) rfl LI (by decide +kernel) (pa_cons (pv 2) pa_nil)) pa_nil))) (blkOk_by (own := [("name", 3)]) (N := ["lib", "gap", "table", "name", "form"]) (sc := defScope sLibBy) (by decide +kernel))
        (fun _ _ _ _ _ => pg_name (i := 3) scLy.nd rfl (.inl rfl)) (fun _ _ _ _ _ => pts_nil) (fun _ _ _ _ _ => pe_tupN (pa_cons (pv 3) (pa_cons (pe_dget hu1 (pv 2) (pv 3) (fun _ _ => rfl)) pa_nil)))) pa_nil))))), ?_⟩
  obtain ⟨a, xs, rfl, hx, hA⟩ := dq_tuple hd
  have hl := hA.len
  have hbl : (bkOf (.tuple ds)).length = ds.length := List.length_map ..
  have few : ds.length ≤ 80 := b.few
  have lens : ∀ n, (foundB h ((bkOf (.tuple ds)).take n) []).length ≤ 160 := fun n => by
    have z := (found_facts h ((bkOf (.tuple ds)).take n) [] .nil).2
    have t := List.length_take_le n (bkOf (.tuple ds))
    have t2 : ((bkOf (.tuple ds)).take n).length ≤ (bkOf (.tuple ds)).length := by rw [List.length_take]; omega
    rw [List.length_nil] at z
    omega
  have zs20 : ∀ {k : Nat}, k ≤ 200 → k < sizeLine := fun h => Nat.lt_of_le_of_lt h (by decide)
  refine fun dd hdd => ?_
  have g1 := Gr.same st (same_new hdd (.dK []))
  have ndw : dd ≠ wl := fun z => by
    rw [z] at hdd
    exact well_ne st.well hdd
  have gd : G dd = none := st.sub.free hdd
  have e1 : upd H dd (.dK []) dd = some (.dK []) := upd_same
  generalize upd H dd (.dK []) = H1 at g1 e1 ⊢
  refine ⟨_, rfl, a, rfl, ⟨_, g1.gh.seqT hx⟩, ?_⟩
  refine for_it (walk_tup (xs := xs)) (fun i σ H' => ∃ G' kvs c3 c4, σ = [some (.ref a), some u, some (.ref dd), c3, c4] ∧ Gr wl G H G' H' ∧ G' dd = none ∧ H' dd = some (.dK kvs) ∧ Paired (TabR K G') kvs (foundB h ((bkOf (.tuple ds)).take i) [])) ⟨G, [], none, none, rfl, g1, gd, e1, .nil⟩
    (fun i σ H' _ ⟨G', kvs, c3, c4, _, g, _⟩ => (g.gg.trans g.gh).seqT hx) ?_ ?_
  · rintro i y0 σ H4 H5 hi ⟨G5, kvs, c3, c4, rfl, g5, gf5, hd5, tp5⟩ ⟨rfl, hy⟩
    obtain ⟨e, he, hde⟩ := dqAll_at _ _ _ hA hy
    have me := List.mem_of_getElem? he
    obtain ⟨y, k, rfl, ty, lv, tx⟩ := b.rows e me
    have hb := bk_get he
    obtain ⟨ad, ws, rfl, hw, hB⟩ := dq_tuple hde
    obtain ⟨x0, rs, rfl, q0, hB⟩ := dqAll_cons hB
    obtain ⟨x1, rs, rfl, q1, hB⟩ := dqAll_cons hB
    obtain rfl := dqAll_nil hB
    cases q0
    have sG5 := g5.gg.trans g5.gh
    have len5 : kvs.length ≤ 160 := by rw [tp5.length]; exact lens i
    refine ⟨ad, _, rfl, sG5.seqT hw, rfl, _, _, rfl, _, _, rfl, rfl, ?_⟩
    refine ⟨_, rfl, _, rfl, _, rfl, dd, _, rfl, DPut.k (k := .inr y) hd5 (zs20 (by omega)), ?_⟩
    have D1 : Dq K G5 x1 k := Dq.mono g5.gg _ _ q1
    have tp6 := paired_put (x := y) tp5 D1
    have g6 := g5.ownL hdd gf5 ndw (.dK (putK kvs (.inr y) x1))
    have hd6 : upd H5 dd (.dK (putK kvs (.inr y) x1)) dd = some (.dK (putK kvs (.inr y) x1)) := upd_same
    generalize upd H5 dd (.dK (putK kvs (.inr y) x1)) = H6 at g6 hd6 ⊢
    have st6 := g6.stt st
    obtain ⟨n', hn', f', _⟩ := lv.form
    have kd := kd_down (lv.kd (m := 30) (by decide))
    have hu5 : Dq K G5 u (hoD h) := Dq.mono (g5.gg) _ _ hu
    refine ⟨_, rfl, _, rfl, G5, x1, u, k, h, rfl, g6.gh, D1, fB_fuel f' (by omega), tx, by omega, hu5, how_ok kw, fun v7 H7 G7 n7 D7 => ?_⟩
    refine ⟨_, rfl, _, rfl, _, rfl, y, u, h, rfl, Dq.mono (g6.gh.trans n7.hh) _ _ hu5, txt_up ty (by omega), ho_up (how_ok kw), dd, _, rfl, DPut.k (k := .inr (calD y h)) (n7.hh _ _ hd6) (zs20 ?_), ?_⟩
    · have z := length_putK kvs (.inr y) x1
      omega
    have g7 := g6.trans (n7.gr st6)
    have gf7 : G7 dd = none := n7.gn dd gf5 (by rw [hd6]; exact fun z => nomatch z)
    have tp7 := paired_put (x := calD y h) (paired_imp (fun kv p z => ⟨z.1, Dq.mono n7.gg _ _ z.2⟩) tp6) D7
    refine ⟨G7, _, _, _, rfl, g7.ownL hdd gf7 ndw _, gf7, upd_same, ?_⟩
    have ef : foundB h ((bkOf (.tuple ds)).take (i + 1)) [] = putB (putB (foundB h ((bkOf (.tuple ds)).take i) []) y k) (calD y h) (kmd 30 k h) := by
      rw [List.take_add_one, hb]
      exact foundB_snoc h (y, k) _ _
    rw [ef]
    exact tp7
  · rintro σ H5 ⟨G5, kvs, c3, c4, rfl, g5, gf5, hd5, tp5⟩
    rw [hl, ← hbl, List.take_length] at tp5
    have dist : Dist (bkOf (.tuple ds)) := by
      unfold Dist bkOf
      rw [List.pairwise_map]
      exact b.up.imp fun z => less_ne z
    have inv := found_inv (ds := ds) (h := h) (byP_one b kw) (fun p mp => look_of dist mp) (bkOf (.tuple ds)) [] [] ⟨(fun x v e => by cases e), (fun p mp => by cases mp)⟩ (fun p mp => mp)
    rw [List.nil_append] at inv
    have ff := found_facts h (bkOf (.tuple ds)) [] .nil
    have fl16 := ff.2
    rw [List.length_nil, hbl] at fl16
    generalize foundB h (bkOf (.tuple ds)) [] = fb at tp5 inv ff fl16
    refine ⟨_, rfl, dd, kvs, rfl, .inl hd5, fun pl hpl => ?_⟩
    have eks := paired_vals tp5
    have gL := g5.trans (Gr.same (g5.stt st) (same_new hpl (.lst (kvs.map fun kv => kV kv.1))))
    have hdL : upd H5 pl (.lst (kvs.map fun kv => kV kv.1)) dd = some (.dK kvs) := same_new hpl _ _ _ hd5
    have hpL : upd H5 pl (.lst (kvs.map fun kv => kV kv.1)) pl = some (.lst ((fb.map (·.1)).map V.str)) := by rw [upd_same, eks]
    generalize upd H5 pl (.lst (kvs.map fun kv => kV kv.1)) = H5L at gL hdL hpL ⊢
    refine ⟨pl, fb.map (·.1), rfl, SqL.of hpL, fun ys p hp hs hn => ?_⟩
    clear g5 hd5
    have g5 := gL
    have hd5 := hdL
    have nd : ys.Nodup := hp.symm.nodup ff.1
    have lys : ys.length = fb.length := by rw [hp.length_eq, List.length_map]
    have up := up_less hs nd
    have st5 := g5.stt st
    have g6 := g5.trans (Gr.same st5 (same_new hn (.lst (ys.map V.str))))
    have hp6 : upd H5L p (.lst (ys.map V.str)) p = some (.lst (ys.map V.str)) := upd_same
    have hd6 : upd H5L p (.lst (ys.map V.str)) dd = some (.dK kvs) := same_new hn _ _ _ hd5
    generalize upd H5L p (.lst (ys.map V.str)) = H6 at g6 hp6 hd6 ⊢
    have st6 := g6.stt st
    refine ⟨p, rfl, ⟨_, SqL.of hp6⟩, fun D nD => ?_⟩
    have ndD : D ≠ wl := fun z => by
      rw [z] at nD
      exact well_ne st6.well nD
    have HD : H D = none := g6.but.free g6.well nD
    have GD : G5 D = none := st6.sub.free nD
    have g7 := g6.trans (Gr.same st6 (same_new nD (.lst [])))
    refine lc_it (walk_list (xs := ys.map V.str)) (fun i H2 => ∃ G2 zs, Gr wl G H G2 H2 ∧ G2 D = none ∧ H2 D = some (.lst zs) ∧ H2 p = some (.lst (ys.map V.str)) ∧ H2 dd = some (.dK kvs) ∧ Same G5 G2 ∧ DqAll K G2 zs ((ys.take i).map (rowF fb)) ∧ zs.length = i)
      ⟨G5, [], g7, GD, upd_same, same_new nD _ _ _ hp6, same_new nD _ _ _ hd6, Same.refl G5, .nil, rfl⟩ (fun i H2 _ ⟨_, _, _, _, _, z, _⟩ => SqL.of z) ?_ ?_
    · rintro i y0 H7 H2 hi ⟨G2, zs, g2, gD2, hD2, hp2, hd2, sG, hE, hzl⟩ ⟨rfl, hy⟩
      refine ⟨rfl, ?_⟩
      simp only [tYes, ↓reduceIte]
      obtain ⟨x, hx', rfl⟩ : ∃ x, ys[i]? = some x ∧ V.str x = y0 := by
        rw [List.getElem?_map] at hy
        cases z : ys[i]? with
        | none => rw [z] at hy; cases hy
        | some x => rw [z] at hy; exact ⟨x, rfl, Option.some.inj hy⟩
      have mx : x ∈ fb.map (·.1) := hp.mem_iff.mp (List.mem_of_getElem? hx')
      have gk := DGet.k (k := .inr x) hd2
      rcases tab_look (x := x) tp5 with ⟨_, l0⟩ | ⟨v1, d1, e1, l1, D1⟩
      · have := look_some mx
        rw [l0] at this
        cases this
      rw [e1] at gk
      refine ⟨_, rfl, _, rfl, _, rfl, dd, v1, rfl, gk, Nat.le_of_lt (zs20 (by show 2 ≤ 200; decide)), fun t ob ht hob => ?_⟩
      obtain ⟨g8, D8⟩ := Gr.tup (K := K) (vs := [.str x, v1]) (ds := [.str x, d1]) (g2.stt st) ht hob (.cons (.str _) (.cons (Dq.mono sG _ _ D1) .nil))
      have er : rowF fb x = .tuple [.str x, d1] := by unfold rowF; rw [l1]; rfl
      have nDp : p ≠ D := fun z => by rw [z] at hp6; rw [nD] at hp6; cases hp6
      have nDd : dd ≠ D := fun z => by rw [z] at hd6; rw [nD] at hd6; cases hd6
      have nlw : p ≠ wl := fun z => by
        rw [z] at hn
        exact well_ne st5.well hn
      have hD8 := g8.lst ndD hD2
      have i20 : zs.length ≤ 200 := by rw [List.length_map] at hi; omega
      refine ⟨zs, hD8, zs20 i20, ?_⟩
      have gD8 := g8.off gD2 (by rw [hD2]; exact fun z => nomatch z)
      refine ⟨_, zs ++ [.ref t], (g2.trans g8).ownL HD gD8 ndD _, gD8, upd_same, by rw [upd_ne nDp]; exact g8.lst nlw hp2, by rw [upd_ne nDd]; exact g8.lst ndw hd2, sG.trans g8.gg, ?_, by rw [List.length_append, hzl]; rfl⟩
      rw [List.take_add_one, hx', List.map_append]
      refine (DqAll.mono g8.gg _ _ hE).append ?_
      show DqAll K _ [.ref t] [rowF fb x]
      rw [er]
      exact .cons D8 .nil
    · rintro H2 ⟨G2, zs, g2, gD2, hD2, hp2, hd2, sG, hE, hzl⟩
      rw [List.length_map, List.take_length] at hE
      refine ⟨D, zs, rfl, .inl ⟨SqL.of hD2, fun t ob ht hob => ?_⟩⟩
      obtain ⟨g8, D8⟩ := Gr.tup (K := K) (vs := zs) (ds := ys.map (rowF fb)) (g2.stt st) ht hob hE
      refine (fun bh : ByH ds (ys.map (rowF fb)) h => q _ _ _ _ (g2.trans g8) D8 bh) ?_
      have key : ∀ y k, lookB fb y = some k → lookB (bkOf (.tuple (ys.map (rowF fb)))) y = some k := fun y k l => by
        have my : y ∈ ys := hp.mem_iff.mpr (by
          obtain ⟨pr, mp, e, _⟩ := look_mem l
          exact List.mem_map.mpr ⟨pr, mp, e⟩)
        have er : rowF fb y = .tuple [.str y, k] := by unfold rowF; rw [l]; rfl
        have mb : (y, k) ∈ bkOf (.tuple (ys.map (rowF fb))) := List.mem_map.mpr ⟨rowF fb y, List.mem_map.mpr ⟨y, my, rfl⟩, by rw [er]; rfl⟩
        refine look_nodup (p := (y, k)) ?_ mb
        rw [bk_names, List.map_map]
        have : (rowN ∘ rowF fb) = id := by funext z; rfl
        rw [this, List.map_id]
        exact nd
      have all : ∀ y k, lookB (bkOf (.tuple ds)) y = some k → lookB fb y = some k ∧ lookB fb (calD y h) = some (kmd 30 k h) := fun y k l => by
        obtain ⟨pr, mp, rfl, rfl⟩ := look_mem l
        exact inv.b pr mp
      refine ⟨fun r mr => ?_, fun y k l => key y k (all y k l).1, fun y k l => key _ _ (all y k l).2, ?_, fun z => ?_, ?_⟩
      · obtain ⟨x, mx, rfl⟩ := List.mem_map.mp mr
        obtain ⟨d1, l1⟩ := Option.isSome_iff_exists.mp (look_some (hp.mem_iff.mp mx))
        refine ⟨x, d1, by unfold rowF; rw [l1]; rfl, inv.a x d1 l1⟩
      · rw [List.pairwise_map]
        exact up
      · have y0 : ys = [] := List.map_eq_nil_iff.mp z
        cases eds : ds with
        | nil => exact b.ne eds
        | cons r rs =>
          obtain ⟨y, k, er, _⟩ := b.rows r (by rw [eds]; exact List.mem_cons_self)
          have mp : (y, k) ∈ bkOf (.tuple ds) := List.mem_map.mpr ⟨r, by rw [eds]; exact List.mem_cons_self, by rw [er]; rfl⟩
          have l := (inv.b _ mp).1
          obtain ⟨pr, mpr, e, _⟩ := look_mem l
          have : y ∈ ys := hp.mem_iff.mpr (List.mem_map.mpr ⟨pr, mpr, e⟩)
          rw [y0] at this
          cases this
      · rw [List.length_map, lys]
        omega
end
end Toy
set_option Elab.async false
set_option linter.all false
set_option maxRecDepth 100000
set_option maxHeartbeats 2000000
namespace Toy
open PySem L2 PyProof.Rows
abbrev sChkK : Stmt := top 36
abbrev sTabFor : Stmt := top 52
abbrev sTabHo : Stmt := top 53
abbrev sChkH : Stmt := top 54
abbrev sKindBy : Stmt := top 57
/-! ### what is asked of arguments, where all is right -/
def spCk (K : PySem.W.Frag) (m : Nat) : Sp := fun vs H Q _ => ∃ (t : Addr) (v : V) (d : PyData) (bk : List (Str × PyData)), vs = [.ref t, v] ∧ Tab K H t bk ∧ Dq K H v d ∧ txtB d = true ∧ d.depth ≤ m ∧ knB m bk d = true ∧ ∀ H', Same H H' → Q .non H'
def spCh (K : PySem.W.Frag) (m : Nat) : Sp := fun vs H Q _ => ∃ (t : Addr) (v : V) (d : PyData) (bk : List (Str × PyData)), vs = [.ref t, v] ∧ Tab K H t bk ∧ Dq K H v d ∧ txtB d = true ∧ d.depth ≤ m ∧ khB m bk d = true ∧ ∀ H', Same H H' → Q .non H'
def KindAt (K : PySem.W.Frag) (m : Nat) (H : Hp) (u : V) (d e : PyData) : Prop := Dq K H u e ∧ txtB e = true ∧ e.depth ≤ m ∧ knB m (bkOf d) e = true
def HoleAt (K : PySem.W.Frag) (m : Nat) (H : Hp) (x : V) (d : PyData) (h : Ho) : Prop := Dq K H x (hoD h) ∧ hoOk h ∧ txtB (hoD h) = true ∧ khB m (bkOf d) (hoD h) = true
def spTf (K : PySem.W.Frag) (m : Nat) : Sp := fun vs H Q _ => ∃ (v u : V) (d e : PyData), vs = [v, u] ∧ BookAt K m H v d ∧ KindAt K m H u d e ∧ ∀ t H', Same H H' → Tab K H' t (bkOf d) → Q (.ref t) H'
def spTh (K : PySem.W.Frag) (m : Nat) : Sp := fun vs H Q _ => ∃ (v u x : V) (d e : PyData) (h : Ho), vs = [v, u, x] ∧ BookAt K m H v d ∧ KindAt K m H u d e ∧ HoleAt K m H x d h ∧ ∀ t H', Same H H' → Tab K H' t (bkOf d) → Q (.ref t) H'
def spKb (K : PySem.W.Frag) (m : Nat) : Sp := fun vs H Q _ => ∃ (v u x : V) (d e : PyData) (h : Ho), vs = [v, u, x] ∧ BookAt K m H v d ∧ KindAt K m H u d e ∧ HoleAt K m H x d h ∧ fB 30 e = true ∧ e.depth ≤ 60 ∧ ∀ v' H', Same H H' → Dq K H' v' (kmd 30 e h) → Q v' H'
theorem hoD_two (h : Ho) : (hoD h).depth ≤ 2 := by
  cases h <;> simp only [hoD, PyData.depth, PyData.depthAll] <;> omega
section
variable {P : Program} {w : World} {K : PySem.W.Frag} {mg : Str → Option Value} {base : Heap} {m : Nat} {C : Addr}
theorem BookAt.on {H H' : Hp} {v : V} {d : PyData} (s : Same H H') (b : BookAt K m H v d) : BookAt K m H' v d := ⟨Dq.mono s _ _ b.1, b.2.1.on s, b.2.2.1, b.2.2.2.1, b.2.2.2.2⟩
theorem KindAt.on {H H' : Hp} {v : V} {d e : PyData} (s : Same H H') (b : KindAt K m H v d e) : KindAt K m H' v d e := ⟨Dq.mono s _ _ b.1, b.2.1, b.2.2.1, b.2.2.2⟩
theorem HoleAt.on {H H' : Hp} {v : V} {d : PyData} {h : Ho} (s : Same H H') (b : HoleAt K m H v d h) : HoleAt K m H' v d h := ⟨Dq.mono s _ _ b.1, b.2.1, b.2.2.1, b.2.2.2⟩
theorem scCk : FnScope ["table", "kind"] ["table", "kind"] (defScope sChkK) := ⟨rfl, rfl, rfl, by decide +kernel, rfl, by decide +kernel, by decide +kernel⟩
theorem scCh : FnScope ["table", "hole"] ["table", "hole"] (defScope sChkH) := ⟨rfl, rfl, rfl, by decide +kernel, rfl, by decide +kernel, by decide +kernel⟩
theorem scTf : FnScope ["book", "kind", "table"] ["book", "kind"] (defScope sTabFor) := ⟨rfl, rfl, rfl, by decide +kernel, rfl, by decide +kernel, by decide +kernel⟩
theorem scTh : FnScope ["book", "kind", "hole", "table"] ["book", "kind", "hole"] (defScope sTabHo) := ⟨rfl, rfl, rfl, by decide +kernel, rfl, by decide +kernel, by decide +kernel⟩
theorem scKb : FnScope ["book", "kind", "hole"] ["book", "kind", "hole"] (defScope sKindBy) := ⟨rfl, rfl, rfl, by decide +kernel, rfl, by decide +kernel, by decide +kernel⟩
theorem ok_checkkind {f gK : Addr} {fd dK : FuncData} (F : Fun K "check_kind" "check_kind" sChkK f fd) (KN : Gv P w K mg base 5 "is_known" gK dK ["table", "value"] (spKn K m)) : FnOk P w K mg base CX0 6 f fd ["table", "kind"] (spCk K m) := by
  refine F.ok scCk (fun vs H Q E h => ?_) (fun cdv A outer s H vs Q E hr h => ?_)
  · obtain ⟨t, v, d, bk, rfl, _⟩ := h
    rfl
  obtain ⟨t, v, d, bk, rfl, tb, hd, tx, dp, ok, q⟩ := h
  refine ⟨_, (pss_one (ps_if (pt_not (pt_val (pe_call KN.ok hr rfl KN.m KN.k KN.b .nil pass0 (pa_cons (pv 0) (pa_cons (pv 1) pa_nil))))) (pss_one ps_never) pss_nil)), ?_⟩
  refine ⟨_, rfl, _, rfl, t, v, d, bk, rfl, tb, hd, tx, dp, fun H1 s1 => ⟨_, rfl, ?_⟩⟩
  rw [ok]
  exact iteF (q H1 s1)
theorem ok_checkhole {f gH : Addr} {fd dH : FuncData} (F : Fun K "check_hole" "check_hole" sChkH f fd) (KH : Gv P w K mg base 6 "is_known_hole" gH dH ["table", "value"] (spKh K m)) : FnOk P w K mg base CX0 (6 + 1) f fd ["table", "hole"] (spCh K m) := by
  refine F.ok scCh (fun vs H Q E h => ?_) (fun cdv A outer s H vs Q E hr h => ?_)
  · obtain ⟨t, v, d, bk, rfl, _⟩ := h
    rfl
  obtain ⟨t, v, d, bk, rfl, tb, hd, tx, dp, ok, q⟩ := h
  refine ⟨_, (pss_one (ps_if (pt_not (pt_val (pe_call KH.ok hr rfl KH.m KH.k KH.b .nil pass0 (pa_cons (pv 0) (pa_cons (pv 1) pa_nil))))) (pss_one ps_never) pss_nil)), ?_⟩
  refine ⟨_, rfl, _, rfl, t, v, d, bk, rfl, tb, hd, tx, dp, fun H1 s1 => ⟨_, rfl, ?_⟩⟩
  rw [ok]
  exact iteF (q H1 s1)
theorem ok_tablefor {f gT gK : Addr} {fd dT dK : FuncData} (F : Fun K "table_for" "table_for" sTabFor f fd) (TO : GvX P w K mg base 64 "table_of" gT dT ["book"] (spTo K m C)) (CK : Gv P w K mg base 6 "check_kind" gK dK ["table", "kind"] (spCk K m)) : FnOk P w K mg base CX0 65 f fd ["book", "kind"] (spTf K m) := by
  refine F.ok scTf (fun vs H Q E h => ?_) (fun cdv A outer s H vs Q E hr h => ?_)
  · obtain ⟨v, u, d, e, rfl, _⟩ := h
    rfl
  obtain ⟨v, u, d, e, rfl, ⟨hd, tp, ht, hdp, ok⟩, hk, q⟩ := h
  have hr6 : Room 6 (A.deeper _) := hr.mono (by omega)
  refine ⟨_, (pss_cons (ps_set (i := 2) scTf.nd rfl (.inl rfl) (pe_call TO.ok hr rfl TO.m TO.k TO.b .nil passL (pa_cons (pv 0) pa_nil)))
    (pss_cons (ps_expr (pe_call CK.ok hr6 rfl CK.m CK.k CK.b .nil pass0 (pa_cons (pv 2) (pa_cons (pv 1) pa_nil))))
    (pss_one (ps_ret (pv 2))))), ?_⟩
  refine ⟨_, rfl, v, d, rfl, hd, tp, ht, hdp, fun _ t H1 s1 tb => ?_, fun e => by rw [ok] at e; cases e⟩
  obtain ⟨h1, h2, h3, h4⟩ := hk.on s1
  refine ⟨_, rfl, _, rfl, t, u, e, bkOf d, rfl, tb, h1, h2, h3, h4, fun H2 s2 => ?_⟩
  exact ⟨_, rfl, q t H2 (s1.trans s2) (tb.on s2)⟩
theorem ok_tableforhole {f gT gK : Addr} {fd dT dK : FuncData} (F : Fun K "table_for_hole" "table_for_hole" sTabHo f fd) (hm : 30 ≤ m) (TF : Gv P w K mg base 65 "table_for" gT dT ["book", "kind"] (spTf K m)) (CH : Gv P w K mg base (6 + 1) "check_hole" gK dK ["table", "hole"] (spCh K m)) : FnOk P w K mg base CX0 66 f fd ["book", "kind", "hole"] (spTh K m) := by
  refine F.ok scTh (fun vs H Q E h => ?_) (fun cdv A outer s H vs Q E hr h => ?_)
  · obtain ⟨v, u, x, d, e, h, rfl, _⟩ := h
    rfl
  obtain ⟨v, u, x, d, e, h, rfl, hb, hk, hh, q⟩ := h
  have hr8 : Room (6 + 1) (A.deeper _) := hr.mono (by omega)
  refine ⟨_, (pss_cons (ps_set (i := 3) scTh.nd rfl (.inl rfl) (pe_call TF.ok hr rfl TF.m TF.k TF.b .nil pass0 (pa_cons (pv 0) (pa_cons (pv 1) pa_nil))))
    (pss_cons (ps_expr (pe_call CH.ok hr8 rfl CH.m CH.k CH.b .nil pass0 (pa_cons (pv 3) (pa_cons (pv 2) pa_nil))))
    (pss_one (ps_ret (pv 3))))), ?_⟩
  refine ⟨_, rfl, _, rfl, v, u, d, e, rfl, hb, hk, fun t H1 s1 tb => ?_⟩
  obtain ⟨h1, h2, h3, h4⟩ := hh.on s1
  refine ⟨_, rfl, _, rfl, t, x, hoD h, bkOf d, rfl, tb, h1, h3, Nat.le_trans (hoD_two h) (by omega), h4, fun H2 s2 => ?_⟩
  exact ⟨_, rfl, q t H2 (s1.trans s2) (tb.on s2)⟩
theorem ok_kindby {f gT gK : Addr} {fd dT dK : FuncData} (F : Fun K "kind_by" "kind_by" sKindBy f fd) (TH : Gv P w K mg base 66 "table_for_hole" gT dT ["book", "kind", "hole"] (spTh K m)) (KM : Gv P w K mg base 62 "kind_made" gK dK ["kind", "hole"] (spKm K 30)) : FnOk P w K mg base CX0 67 f fd ["book", "kind", "hole"] (spKb K m) := by
  refine F.ok scKb (fun vs H Q E h => ?_) (fun cdv A outer s H vs Q E hr h => ?_)
  · obtain ⟨v, u, x, d, e, h, rfl, _⟩ := h
    rfl
  obtain ⟨v, u, x, d, e, h, rfl, hb, hk, hh, fe, dp, q⟩ := h
  have hrk : Room 62 (A.deeper _) := hr.mono (by omega)
  refine ⟨_, (pss_cons (ps_expr (pe_call TH.ok hr rfl TH.m TH.k TH.b .nil pass0 (pa_cons (pv 0) (pa_cons (pv 1) (pa_cons (pv 2) pa_nil)))))
    (pss_one (ps_ret (pe_call KM.ok hrk rfl KM.m KM.k KM.b .nil pass0 (pa_cons (pv 1) (pa_cons (pv 2) pa_nil)))))), ?_⟩
  refine ⟨_, rfl, _, rfl, _, rfl, v, u, x, d, e, h, rfl, hb, hk, hh, fun t H1 s1 _ => ?_⟩
  obtain ⟨k1, k2, k3, k4⟩ := hk.on s1
  obtain ⟨h1, h2, h3, h4⟩ := hh.on s1
  exact ⟨_, rfl, _, rfl, u, x, e, h, rfl, k1, fe, k2, dp, h1, h2, fun v' H' s' D => q v' H' (s1.trans s') D⟩
end
end Toy
set_option Elab.async false
set_option linter.all false
set_option maxRecDepth 100000
set_option maxHeartbeats 2000000
/-! sorted(d.items(), key=lambda row: row[0]) -/
namespace Lrow
open PySem PySem.W PySem.Calls PyProof.Rows
/-- lambda row: row[0] -/
abbrev rowB (j : Nat) (p1 p2 p3 : Pos) : Expr := .Subscript (.Name "row" p1) (.Constant (.int 0) j p2) p3
section
variable {prog : Program} {w : World} {A : Around} {E : Value → Shared → Prop} {s : Shared}
theorem call_row0 {f c' t : Addr} {q : Str} {params : Arguments} {j : Nat} {p1 p2 p3 : Pos} {sc : Scope} {pm ctv key x : Value} (hd : A.depth < recursionLimit)
    (ho : s.heap.get? f = some (kla_obj "<lambda>" q params (rowB j p1 p2 p3) sc [] pm c' ctv)) (hc : s.heap.CodeRec (.ref c') q) (lim : s.heap.NoLimit)
    (hb : ∀ v : Value, bindArgs (kla_fn "<lambda>" q params (rowB j p1 p2 p3) sc [] pm (.ref c') ctv) ⟨[v], []⟩ = pure [(("row" : Str), v)]) (hk : sc.kind = .function) (hl : sc.names.lookup ("row" : Str) = some .local) (co : sc.isCoroutine = false) (gen : sc.isGenerator = false)
    (ht : s.heap.get? t = some { cls := .type "tuple", data := .seq #[key, x] }) :
    wpAny (model prog w) A (call (.ref f) [.ref t]) (fun v s' => v = key ∧ ∃ h' tk, s' = { s with heap := h', toks := tk } ∧ ∀ b o, s.heap.get? b = some o → h'.get? b = some o) E s := by
  refine wpAny_call (kla_callFunE hd ho rfl co gen rfl hc ?_)
  rw [hb]
  refine wpAny_pure (wpAny_newFunctionEnv_cells hk (fun y hy => by rw [List.mem_singleton.mp hy]; exact .inl hl) fun env he s1 x1 => ?_)
  subst he
  obtain ⟨h1, t1, rfl, keep⟩ := x1.done
  refine ⟨lim.keeps keep, kla_codeExpr ?_⟩
  refine Subscript_ (wpAny_Name (wpAny_loadName_local (v := .ref t) hk hl x1.toInCall.ns ?_ (wpAny_Constant_int ?_)) (by decide))
  · show bindL _ [(("row" : Str), Value.ref t)] _ _ = _
    simp only [bindL]
    rw [if_pos (show (newEnv sc s.heap.objs.size mainGlobals (cellsFrom (s.heap.objs.size + 1) sc.names []) (q ++ ".<locals>.") (some f) (.ref c') none builtinsNs).kindOf ("row" : Str) = some .local from hl), if_pos rfl]
  · refine subscriptTail_builtinR (x := key) (T := "tuple") ⟨_, keep _ _ ht, rfl⟩ slot_tuple_getitem.lookup ?_
    refine PyProof.Rows.getItem_tuple (items := #[key, x]) (j := 0) ⟨_, keep _ _ ht, rfl, _, rfl⟩ (by decide) (by decide) rfl rfl ?_
    exact ⟨rfl, rfl, h1, t1 + 1, rfl, keep⟩
/-- sorted(v, key=f), v a view of a dict's items -/
theorem sorted_view_key {K : Type} [DecidableEq K] {knd : PySem.KeyKind prog w K} {r d f : Addr} {kvs : List (K × Value)} {ep : Nat} {Q : Value → Shared → Prop} (hh : A.handled = none) (hv : s.heap.IsItemsView r d) (hm : s.heap.DictAt knd d kvs ep) (hn : kvs.length ≤ sizeLine)
    (main : ∀ (h1 : Heap) (t1 : Nat) (as : List Addr), (∀ b o, s.heap.get? b = some o → h1.get? b = some o) → as.length = kvs.length → KdxG knd kvs s.heap.objs.size h1 as →
      ∃ (β : Type) (R : Value → β → Prop) (bs : List β) (k : β → PyData), AllAlike (bs.map k) ∧ Sortable (bs.map k) ∧ (∀ x, x ∈ bs → A.units + 2 + (k x).depth < cLine) ∧ EachIs R (as.map Value.ref) bs ∧
      (∀ (v : Value) (x : β), R v x → x ∈ bs → ∀ (h : Heap) (tk : Nat), (∀ b o, h1.get? b = some o → h.get? b = some o) → wpAny (model prog w) A.in1.in1 (call (.ref f) [v]) (KeyPure (k x) { s with heap := h, toks := tk }) (fun _ _ => False) { s with heap := h, toks := tk }) ∧
      ∀ out c h' tk, (∀ b o, h1.get? b = some o → h'.get? b = some o) → h'.get? h1.objs.size = some (seqObj "list" (List.toArray out) c) → out.length = bs.length → EachIs R out (bs.mergeSort (dataLe false k)) → Q (.ref h1.objs.size) { s with heap := h', toks := tk }) :
    wpAny (model prog w) A (call (.builtin "sorted") [.ref r] [(Str.ofString "key", .ref f)]) Q E s := by
  refine call_function_entry_kw kind_sorted plain_sorted entry_sorted (ksk_s1 _ _) ?_
  unfold Builtin.«sorted»
  refine wpAny_bind (m := checkCount "sorted" 1 1 _) (wpAny_pure ?_)
  refine wpAny_bind (kdx_collect (knd := knd) (kvs := kvs) (ep := ep) hh hv hm hn fun h1 t1 as keep hl hG => ?_)
  obtain ⟨β, R, bs, k, hal, hk, hu, e, turn, fin⟩ := main h1 t1 as keep hl hG
  have hL : (as.map Value.ref).length ≤ sizeLine := by rw [List.length_map, hl]; exact hn
  refine wpAny_bind (wpAny_newList ?_ hL)
  have ho : (h1.push (seqObj "list" (as.map Value.ref).toArray 0)).get? h1.objs.size = some (seqObj "list" (as.map Value.ref).toArray 0) := Heap.get?_push_size _ rfl
  refine wpAny_bind (wpAny_holding (wpAny_call_entry_kw slot_list_sort ⟨_, ho, rfl⟩ entry_list_sort ?body (ksk_l1 _ _)))
  case body =>
    show wpAny (model prog w) A.in1.in1 (Builtin.«list.sort» ⟨[.ref h1.objs.size], [(Str.ofString "key", .ref f)]⟩) _ _ _
    rw [ksk_t1]
    refine wpAny_mono (keyH_tree (kz := bs.map k) (s := { s with heap := h1.push (seqObj "list" (as.map Value.ref).toArray 0), toks := t1 }) (P := fun f' s' => f' = .done (.ret .none) ∧ Q (.ref h1.objs.size) s') (E := E) ho (by rw [List.length_map]; exact e.length.symm) hL hal hk (bound_map (A := A.in1.in1) hu)
      (keyH_turns (s := { s with heap := h1.push (seqObj "list" (as.map Value.ref).toArray 0), toks := t1 }) e fun v x hR hx h tk kp => turn v x hR hx h tk fun b o q => kp b o (Nat.ne_of_lt (Heap.lt_size q)) (Heap.get?_push_of_some _ q)) fun h' tk out c kp hD ko => ⟨rfl, ?_⟩) (fun f' s' hf => ?_) fun _ _ e => e
    · refine fin out c h' tk (fun b o q => kp b o (Nat.ne_of_lt (Heap.lt_size q)) (Heap.get?_push_of_some _ q)) hD ((ko.length (by rw [List.length_map]; exact e.length.symm)).trans e.length) (keyedOut_each k ko e)
    · obtain ⟨rfl, hq⟩ := hf
      exact ⟨_, rfl, wpAny_pure ⟨_, rfl, hq⟩⟩
end
end Lrow
set_option Elab.async false
set_option linter.all false
set_option maxRecDepth 100000
set_option maxHeartbeats 2000000
namespace Lrow
open PySem PySem.Spec PyProof.Rows L2
/-- the pairs tracked at their addresses, with their objects -/
def putF (g : Addr → Obj) : Hp → List Addr → List (Key × V) → Hp
  | H, a :: as, p :: kvs => putF g (upd H a (.frz (g a) (.tup [kV p.1, p.2]))) as kvs
  | H, _, _ => H
theorem putF_off {g : Addr → Obj} {b : Addr} : ∀ (as : List Addr) (kvs : List (Key × V)) (H : Hp), b ∉ as → putF g H as kvs b = H b
  | [], _, _, _ => rfl
  | _ :: _, [], _, _ => rfl
  | a :: as, p :: kvs, H, h => by
    show putF g (upd H a (.frz (g a) (.tup [kV p.1, p.2]))) as kvs b = H b
    rw [putF_off as kvs _ (fun z => h (List.mem_cons_of_mem _ z)), upd_ne (fun z => h (by rw [z]; exact List.mem_cons_self))]
theorem putF_at {g : Addr → Obj} : ∀ (as : List Addr) (kvs : List (Key × V)) (H : Hp), as.length = kvs.length → as.Nodup → Paired (fun (t : Addr) (p : Key × V) => putF g H as kvs t = some (.frz (g t) (.tup [kV p.1, p.2]))) as kvs
  | [], [], _, _, _ => .nil
  | [], _ :: _, _, h, _ => by cases h
  | _ :: _, [], _, h, _ => by cases h
  | a :: as, p :: kvs, H, h, hn => by
    have hn' := List.nodup_cons.mp hn
    have ih := putF_at (g := g) as kvs (upd H a (.frz (g a) (.tup [kV p.1, p.2]))) (Nat.succ.inj h) hn'.2
    refine .cons ?_ ih
    show putF g (upd H a (.frz (g a) (.tup [kV p.1, p.2]))) as kvs a = some (.frz (g a) (.tup [kV p.1, p.2]))
    rw [putF_off as kvs _ hn'.1, upd_same]
/-- what is known of a pair at t -/
def PairAt (K : PySem.W.Frag) (H : Hp) (h : Heap) (t : Addr) (q : Key × V) : Prop := ∃ (key x : Value), H t = some (.frz { cls := .type "tuple", data := .seq #[key, x] } (.tup [kV q.1, q.2])) ∧ h.get? t = some { cls := .type "tuple", data := .seq #[key, x] } ∧ RelV (kV q.1) key
section
variable {X : Cx}
theorem items_frz {pins : List (Addr × Obj)} {σ : L2.St} {H : Hp} {s : Shared} {h' : Heap} {tk : Nat} {kvs : List (Key × V)} {vs : List (Key × Value)} {as : List Addr} (I : Inv X pins σ H s) (kv : KV kvs vs)
    (hk : ∀ b o, s.heap.get? b = some o → h'.get? b = some o) (hl : as.length = vs.length) (hG : PySem.W.KdxG (mixKind X.prog X.w) vs s.heap.objs.size h' as) :
    ∃ H' : Hp, (∀ b o, H b = some o → H' b = some o) ∧ (∀ t ∈ as, H t = none) ∧ Paired (PairAt X.K H' h') as kvs ∧ Inv X pins σ H' { s with heap := h', toks := tk } := by
  have lk : kvs.length = vs.length := Paired.length kv
  have nd : as.Nodup := List.Pairwise.imp (fun {a b} (h : a < b) => Nat.ne_of_lt h) hG.rise
  have new : ∀ t ∈ as, H t = none := fun t ht => I.hok.fresh (Nat.le_of_lt (hG.above t ht))
  let g : Addr → Obj := fun a => (h'.get? a).getD { cls := .none, data := .plain }
  have atP := putF_at (g := g) as kvs H (by omega) nd
  have off : ∀ b, b ∉ as → putF g H as kvs b = H b := fun b h1 => putF_off as kvs _ h1
  have low : ∀ b o, s.heap.get? b = some o → b ∉ as := fun b o e z => absurd (Heap.lt_size e) (Nat.not_lt.mpr (Nat.le_of_lt (hG.above b z)))
  have kp : ∀ b u, H b = some u → (putF g H as kvs) b = some u := fun b u e => by
    rw [off b (fun z => by rw [new b z] at e; cases e)]
    exact e
  have pairs : Paired (PairAt X.K (putF g H as kvs) h') as kvs := by
    have go : ∀ {xs : List Addr} {ys : List (Key × V)}, Paired (fun (t : Addr) (p : Key × V) => putF g H as kvs t = some (.frz (g t) (.tup [kV p.1, p.2]))) xs ys → (∀ (j : Nat) (a : Addr) (q : Key × V), xs[j]? = some a → ys[j]? = some q → ∃ key x, h'.get? a = some { cls := .type "tuple", data := .seq #[key, x] } ∧ RelV (kV q.1) key) → Paired (PairAt X.K (putF g H as kvs) h') xs ys := by
      intro xs ys p
      induction p with
      | nil => intro _; exact .nil
      | @cons a q xs ys r _ ih =>
        intro hx
        obtain ⟨key, x, e1, e2⟩ := hx 0 a q rfl rfl
        refine .cons ⟨key, x, ?_, e1, e2⟩ (ih fun j a q h1 h2 => hx (j + 1) a q h1 h2)
        rw [r]
        have eg : g a = { cls := .type "tuple", data := .seq #[key, x] } := by
          show (h'.get? a).getD _ = _
          rw [e1]
          rfl
        rw [eg]
    refine go atP fun j a q h1 h2 => ?_
    obtain ⟨key, k, x, f1, f2, f3⟩ := hG.pairs j a h1
    obtain ⟨qv, g1, g2, g3⟩ := LiI.paired_get kv h2
    rw [f1] at g1
    cases g1
    refine ⟨key, x, f3, ?_⟩
    rw [g2]
    exact relV_key (show keyIs k key = true from f2)
  refine ⟨putF g H as kvs, kp, new, pairs, ?_⟩
  refine I.call' (ch := []) rfl ⟨fun b o q _ _ _ => hk b o q, fun b o q _ _ _ => ⟨o.slots, hk b o q⟩, fun b o q n _ => ?_, fun b o q _ => ⟨o, hk b o q⟩, fun b xs q => kp b _ q, fun b o u q => kp b _ q, fun b ps q => ⟨#[], by rw [kp b _ q]; simp⟩⟩ (fun b u q => ?_) I.bare fun b z => by simp at z
  · rw [off b (low b o q)]
    exact n
  · by_cases hb : b ∈ as
    · obtain ⟨j, pk, e1, e2, e3⟩ := LiI.paired_ix pairs hb
      obtain ⟨key, x, k1, k2, k3⟩ := e3
      obtain ⟨key', k', x', f1, f2, f3⟩ := hG.pairs j b e1
      have ev := k2.symm.trans f3
      have e5 : key = key' ∧ x = x' := by
        have e6 := congrArg Obj.data (Option.some.inj ev)
        have e7 : Data.seq #[key, x] 0 = Data.seq #[key', x'] 0 := e6
        injection e7 with e8 _
        have e9 := congrArg Array.toList e8
        simp only at e9
        injection e9 with a1 a2
        injection a2 with a2 _
        exact ⟨a1, a2⟩
      obtain ⟨rfl, rfl⟩ := e5
      obtain ⟨qv, g1, g2, g3⟩ := LiI.paired_get kv e2
      rw [f1] at g1
      cases g1
      rw [k1] at q
      cases q
      exact new_frz (its := [key, x]) (.cons k3 (.cons g3 .nil)) (by show 2 ≤ sizeLine; decide) k2 _ _
    · rw [off b hb] at q
      exact (I.hok b u q).stay (fun d v _ y => hk d v y) (fun d y => kp d _ y) fun d xs y => kp d _ y
end
end Lrow
set_option Elab.async false
set_option linter.all false
set_option maxRecDepth 100000
set_option maxHeartbeats 4000000
namespace Lrow
open PySem PySem.Spec PyProof.Rows L2 LamX
open PySem.W (EachIs AllAlike Sortable dataLe KeyPure keyToks sortLe)
def kTx : Key → Str
  | .inr x => x
  | .inl _ => ""
theorem each_zip : ∀ (as : List Addr) (kvs : List (Key × V)), as.length = kvs.length → EachIs (fun (v : Value) (b : Addr × (Key × V)) => v = .ref b.1) (as.map Value.ref) (as.zip kvs)
  | [], [], _ => .nil
  | [], _ :: _, h => by cases h
  | _ :: _, [], h => by cases h
  | a :: as, q :: kvs, h => .cons rfl (each_zip as kvs (Nat.succ.inj h))
theorem each_refs : ∀ {out : List Value} {bs : List (Addr × (Key × V))}, EachIs (fun (v : Value) (b : Addr × (Key × V)) => v = .ref b.1) out bs → out = (bs.map (·.1)).map Value.ref
  | _, _, .nil => rfl
  | _, _, .cons h t => by rw [h, each_refs t]; rfl
theorem zip_snd : ∀ (as : List Addr) (kvs : List (Key × V)), as.length = kvs.length → (as.zip kvs).map (·.2) = kvs
  | [], [], _ => rfl
  | [], _ :: _, h => by cases h
  | _ :: _, [], h => by cases h
  | a :: as, q :: kvs, h => by
    show q :: (as.zip kvs).map (·.2) = _
    rw [zip_snd as kvs (Nat.succ.inj h)]
theorem paired_zip {F : Addr → (Key × V) → Prop} : ∀ {as : List Addr} {kvs : List (Key × V)}, Paired F as kvs → ∀ b ∈ as.zip kvs, F b.1 b.2
  | _, _, .nil, b, m => by cases m
  | _, _, .cons h t, b, m => by
    rcases List.mem_cons.mp m with e | m
    · rw [e]; exact h
    · exact paired_zip t b m
theorem paired_of {F : Addr → (Key × V) → Prop} : ∀ {bs : List (Addr × (Key × V))}, (∀ b ∈ bs, F b.1 b.2) → Paired F (bs.map (·.1)) (bs.map (·.2))
  | [], _ => .nil
  | b :: bs, h => .cons (h b List.mem_cons_self) (paired_of fun c m => h c (List.mem_cons_of_mem _ m))
theorem le_txt {k : Addr × (Key × V) → PyData} (hk : ∀ b, k b = .str (kTx b.2.1)) {a b : Addr × (Key × V)} (h : dataLe false k a b = true) : ¬ (kTx b.2.1).cps.toList < (kTx a.2.1).cps.toList := by
  have h : (!(listOrd itemOrd).blt (keyToks (k b)) (keyToks (k a))) = true := h
  rw [hk, hk] at h
  intro lt
  have e : (listOrd itemOrd).blt (keyToks (.str (kTx b.2.1))) (keyToks (.str (kTx a.2.1))) = true := by
    show PyProof.Rows.lexLt itemOrd [.inr _] [.inr _] = true
    rw [PyProof.Rows.lex_cons]
    have : itemOrd.blt (.inr (kTx b.2.1).cps.toList) (.inr (kTx a.2.1).cps.toList) = true := decide_eq_true lt
    rw [this]
    rfl
  rw [e] at h
  cases h
def tSortIt (T : List (Addr × Str)) (te : TE) : TE := fun σ H Q => te σ H fun x H1 => ∃ (d : Addr) (kvs : List (Key × V)), x = .ref d ∧ H1 d = some (.dK kvs) ∧ (∀ q ∈ kvs, ∃ y : Str, q.1 = .inr y) ∧ Tabs T H1 ∧
  ∀ (H' : Hp) (p : Addr) (ts : List Addr) (kvs' : List (Key × V)), ExtN H1 H' → Tabs T H' → H1 p = none → H' p = some (.lst (ts.map V.ref)) → (∀ t ∈ ts, H1 t = none) → Paired (fun t q => ∃ o : Obj, o.dict = none ∧ H' t = some (.frz o (.tup [kV q.1, q.2]))) ts kvs' → kvs'.Perm kvs → (kvs'.Pairwise fun a b => ¬ (kTx b.1).cps.toList < (kTx a.1).cps.toList) → Q (.ref p) H'
section
variable {X : Cx} {e : Expr} {te : TE} {p apos cpos pos lpos kp p1 p2 p3 : Pos} {c P : Addr} {T : List (Addr × Str)} {params : Arguments} {scope : Scope} {j : Nat}
theorem pe_sortIt (hc : X.calm = true) (he : PE X e te) (hg : Gl X "sorted") (hm : X.mg "sorted" = none) (TB : TabB X.base X.mg c P) (hcode : X.env.code = .ref c) (hmT : (P, X.env.qual ++ "<lambda>") ∈ T) (hu : ∀ p ∈ T, p.1 = P → p.2 = X.env.qual ++ "<lambda>") (hr : Room 3 X.A)
    (hcl : cloFrom X.env.cells scope.names [] = []) (hfree : ∀ y ∈ scope.names, y.2 = .free → ∃ c, X.env.cells.lookup y.1 = some c) (hdef : defaultsOf params X.env = ([], [])) (hk : scope.kind = .function) (hl : scope.names.lookup ("row" : Str) = some .local) (co : scope.isCoroutine = false) (gen : scope.isGenerator = false)
    (hb : ∀ (q : Str) (pm cv ctv v : Value), bindArgs (PySem.W.kla_fn "<lambda>" q params (rowB j p1 p2 p3) scope [] pm cv ctv) ⟨[v], []⟩ = pure [(("row" : Str), v)])
    (hbase : attributeBase e "items" X.env (eval e X.env) = eval e X.env := by rfl) (hline : (apos.endLine == cpos.line) = true := by rfl)
    (hs : starEach [.Call (.Attribute e "items" apos) [] [] cpos] X.env = (false, eval (.Call (.Attribute e "items" apos) [] [] cpos) X.env) :: starEach [] X.env := by rfl) :
    PE X (.Call (.Name "sorted" p) [.Call (.Attribute e "items" apos) [] [] cpos] [⟨some "key", .Lambda params (rowB j p1 p2 p3) scope lpos, kp⟩] pos) (tSortIt T te) := by
  refine ⟨fun pins s σ H Q I hq => ?_⟩
  have hv : bootBuiltins (Str.ofString "sorted") = some (.builtin "sorted") := by decide +kernel
  refine wpAny_Call_Name_kw (ld_blt I hg hm hv ?_)
  refine PyProof.Rows.callWith_kw ?_ (by rw [hs]; rfl) (by rw [hs]; rfl)
  rw [hs]
  show wpAny _ _ (spliced ((false, eval (.Call (.Attribute e "items" apos) [] [] cpos) X.env) :: backTo pos (starEach [] X.env))) _ _ s
  refine Calls.spliced_cons ?_
  refine wpAny_Call_method (T := "dict") (id := "dict.items") hbase rfl hline F.plainAttrs_dict F.slot_dict_items F.type_dict_items (thn (he.run pins s σ H _ I hq) fun u s1 ⟨x, H1, I1, rx, d, kvs, ex, hd, txt, hT, q⟩ => ?_)
  subst ex
  obtain rfl : u = Value.ref d := rx
  obtain ⟨hz, hs0, vs, kv, hdo⟩ := I1.hok d _ hd
  have lk : kvs.length = vs.length := Paired.length kv
  refine ⟨hdo.typeIs, hdo.mapOf.noDict, ?_⟩
  show wpAny _ _ (callWith cpos (.builtin "dict.items") [.ref d] [] []) _ X.xe s1
  refine method_meetsIn F.slot_dict_items F.entry_dict_items rfl (PySem.evalArgs_none ⟨rfl, hdo.typeIs, F.args_dict_items_1 _, _, meets_dict_items (mixKind X.prog X.w) d hs0, ⟨vs, hdo⟩, ?_⟩)
  refine Calls.spliced_nil ?_
  -- the view is tracked
  have I2 : Inv X pins σ (upd H1 s1.heap.objs.size (.ext fun h => h.get? s1.heap.objs.size = some { cls := .type "dict_items", data := .fields #[.ref d] })) { s1 with heap := s1.heap.push { cls := .type "dict_items", data := .fields #[.ref d] }, toks := s1.toks } :=
    I1.laid (fun b ob q => Heap.get?_push_of_some _ q) (Nat.le_refl _) ⟨Heap.get?_push_size _ rfl, ⟨_, Heap.get?_push_size _ rfl⟩, fun h1 h2 e st => st _ e⟩
  have n2 : H1 s1.heap.objs.size = none := I1.hok.fresh (Nat.le_refl _)
  have k2 : ∀ b o, H1 b = some o → upd H1 s1.heap.objs.size (.ext fun h => h.get? s1.heap.objs.size = some { cls := .type "dict_items", data := .fields #[.ref d] }) b = some o := fun b o q => by rw [upd_ne (ne_of_none q n2)]; exact q
  have T2 := hT.ext k2
  refine PyProof.Rows.kws_cons (lam_make2 I2 TB hcode hmT hu T2 hdef hfree fun f c' pm ctv H3 s3 I3 eN T3 hf hfn hfr hco => PyProof.Rows.kws_nil ?_)
  rw [hcl] at hf
  show wpAny _ _ (call (.builtin "sorted") [.ref s1.heap.objs.size] [(Str.ofString "key", .ref f)]) _ _ _
  obtain ⟨⟨oc, cvs, ct, hoc, hocd, hocv⟩, _, _⟩ := I3.hok c' _ hco
  have nt : ∀ (P : Heap → Prop) (ps : Array Value), HO.ext P ≠ .tbl ps := fun P ps z => by cases z
  have rvw : s3.heap.get? s1.heap.objs.size = some { cls := .type "dict_items", data := .fields #[.ref d] } := (I3.hok _ _ (eN _ _ upd_same (nt _))).1
  have hd3 : H3 d = some (.dK kvs) := eN _ _ (k2 _ _ hd) (fun ps z => by cases z)
  obtain ⟨hz3, hs03, vs3, kv3, hdo3⟩ := I3.hok d _ hd3
  obtain ⟨ep3, hat3⟩ := hdo3.dictAt
  have lk3 : kvs.length = vs3.length := Paired.length kv3
  refine sorted_view_key (knd := mixKind X.prog X.w) (kvs := vs3) (ep := ep3) (I3.ok.hd hc) ⟨_, rvw, rfl, rfl⟩ hat3 (by omega) fun h1 t1 as keep hlen hG => ?_
  obtain ⟨H4, k4, n4, P4, I4⟩ := items_frz (tk := t1) I3 kv3 keep hlen hG
  have mem : ∀ {d : PyData}, d ∈ (as.zip kvs).map (fun b => PyData.str (kTx b.2.1)) → ∃ x, d = .str x := fun {d} m => by
    obtain ⟨b, _, rfl⟩ := List.mem_map.mp m
    exact ⟨_, rfl⟩
  refine ⟨Addr × (Key × V), fun v b => v = .ref b.1, as.zip kvs, fun b => .str (kTx b.2.1), fun d hd d' hd' => ?_, .inr fun d hd => ?_, fun b _ => ?_, each_zip as kvs (by omega), ?_, ?_⟩
  · obtain ⟨x, rfl⟩ := mem hd
    obtain ⟨y, rfl⟩ := mem hd'
    simp only [PySem.W.alike]
  · obtain ⟨x, rfl⟩ := mem hd
    exact ⟨(fun z => nomatch z), fun xs z => nomatch z⟩
  · have := hr.un
    simp only [PyData.depth]
    omega
  · rintro v b rfl mb h tk kh
    obtain ⟨key, x, e1, e2, e3⟩ := paired_zip P4 b mb
    obtain ⟨y, ey⟩ := txt b.2 (List.of_mem_zip mb).2
    have ek : kTx b.2.1 = y := by rw [ey]; rfl
    rw [ey] at e3
    obtain ⟨tk0, rfl⟩ : ∃ t, key = .str y t := e3
    have lim := (I4.kept (h' := h) (t' := tk) kh).nolimit
    refine wpAny_mono (call_row0 (s := { s3 with heap := h, toks := tk }) (key := .str y tk0) (x := x) (E := fun _ _ => False) (hr.mono (by omega : 2 ≤ 3)).in1.in1.depth (kh _ _ (keep _ _ hf)) ⟨c', oc, cvs, ct, rfl, kh _ _ (keep _ _ hoc), hocd, hocv⟩ lim (fun v => hb _ _ _ _ v) hk hl co gen (kh _ _ e2)) (fun v s' z => ?_) fun _ _ z => z
    obtain ⟨rfl, h', tk', rfl, kp⟩ := z
    refine ⟨h', tk', rfl, kp, ?_⟩
    show Reads h' (.str y tk0) (.str (kTx b.2.1)) []
    rw [ek]
    exact .str _ _
  · intro out cc h' tk kh hD hlo hE
    have eo := each_refs hE
    have pm : ((as.zip kvs).mergeSort (dataLe false fun b => PyData.str (kTx b.2.1))).Perm (as.zip kvs) := List.mergeSort_perm _ _
    have tl := PySem.W.sortLe_total (listOrd itemOrd) false fun b : Addr × (Key × V) => keyToks (PyData.str (kTx b.2.1))
    have pw := List.pairwise_mergeSort (le := dataLe false fun b : Addr × (Key × V) => PyData.str (kTx b.2.1)) tl.trans (fun a b => by rcases tl.total a b with z | z <;> simp [dataLe, z]) (as.zip kvs)
    generalize (as.zip kvs).mergeSort (dataLe false fun b => PyData.str (kTx b.2.1)) = bs' at hE eo pm pw
    have lo1 : s1.heap.objs.size < s3.heap.objs.size := Heap.lt_size rvw
    have lo2 : s1.heap.objs.size < h1.objs.size := Heap.lt_size (keep _ _ rvw)
    have nD1 : H1 h1.objs.size = none := I1.hok.fresh (Nat.le_of_lt lo2)
    have nD4 : H4 h1.objs.size = none := I4.hok.fresh (Nat.le_refl _)
    have I6 := I4.laid (h' := h') (t' := tk) (a := h1.objs.size) (o := .lst ((bs'.map (·.1)).map V.ref)) kh (Nat.le_refl _) ⟨by rw [List.length_map, List.length_map, pm.length_eq, List.length_zip]; omega, out, cc, by rw [eo]; exact LiI.vals_refs _, hD⟩
    have k6 : ∀ b o, H4 b = some o → upd H4 h1.objs.size (.lst ((bs'.map (·.1)).map V.ref)) b = some o := fun b o q => by rw [upd_ne (ne_of_none q nD4)]; exact q
    refine ⟨.ref _, _, I6, rfl, q _ _ (bs'.map (·.1)) (bs'.map (·.2)) (((ExtN.of k2).trans eN).trans ((ExtN.of k4).trans (ExtN.of k6))) ((T3.ext k4).ext k6) nD1 upd_same (fun t mt => ?_) (paired_of fun b mb => ?_) ?_ ?_⟩
    · obtain ⟨b, mb, rfl⟩ := List.mem_map.mp mt
      have q5 : s3.heap.objs.size < b.1 := hG.above _ (List.of_mem_zip (pm.mem_iff.mp mb)).1
      exact I1.hok.fresh (Nat.le_of_lt (Nat.lt_trans lo1 q5))
    · obtain ⟨key, x, e1, e2, e3⟩ := paired_zip P4 b (pm.mem_iff.mp mb)
      exact ⟨_, rfl, k6 _ _ e1⟩
    · have z := pm.map (·.2)
      rw [zip_snd as kvs (by omega)] at z
      exact z
    · rw [List.pairwise_map]
      exact pw.imp fun z => le_txt (k := fun b => PyData.str (kTx b.2.1)) (fun _ => rfl) z
end
end Lrow
set_option Elab.async false
set_option linter.all false
set_option maxRecDepth 100000
set_option maxHeartbeats 2000000
namespace Toy
open PySem L2 PyProof.Rows
abbrev sTabMade : Stmt := top 26
/-! ### a heap without two of its dicts -/
def off2 (H : Hp) (a b : Addr) : Hp := fun x => if x = a ∨ x = b then none else H x
theorem off2_ne {H : Hp} {a b x : Addr} (h1 : x ≠ a) (h2 : x ≠ b) : off2 H a b x = H x := if_neg (fun z => z.elim h1 h2)
theorem off_at {H : Hp} {a b x : Addr} {o : HO} (h1 : x ≠ a) (h2 : x ≠ b) (h : H x = some o) : off2 H a b x = some o := by rw [off2_ne h1 h2]; exact h
theorem off2_inv {H : Hp} {a b x : Addr} {o : HO} (e : off2 H a b x = some o) : x ≠ a ∧ x ≠ b ∧ H x = some o := by
  unfold off2 at e
  by_cases q : x = a ∨ x = b
  · rw [if_pos q] at e; cases e
  · rw [if_neg q] at e
    exact ⟨fun z => q (.inl z), fun z => q (.inr z), e⟩
theorem off2_sub {H : Hp} {a b : Addr} : Same (off2 H a b) H := fun x o e => (off2_inv e).2.2
/-- a dict that is not empty -/
def BigD (H : Hp) (a : Addr) : Prop := ∃ q kvs, H a = some (.dK (q :: kvs)) ∨ ∃ o, H a = some (.frz o (.dK (q :: kvs)))
theorem big_not {H : Hp} {a : Addr} (h : BigD H a) : (∀ xs, H a ≠ some (.lst xs)) ∧ (∀ o xs, H a ≠ some (.frz o (.lst xs))) ∧ (∀ o xs, H a ≠ some (.frz o (.tup xs))) ∧ H a ≠ some (.dK []) := by
  obtain ⟨q, kvs, e | ⟨o, e⟩⟩ := h <;> (refine ⟨fun xs z => ?_, fun o xs z => ?_, fun o xs z => ?_, fun z => ?_⟩ <;> rw [e] at z <;> cases z)
mutual
theorem Dq.off {K : PySem.W.Frag} {H : Hp} {a b : Addr} (ha : BigD H a) (hb : BigD H b) : ∀ (d : PyData) (v : V), Dq K H v d → Dq K (off2 H a b) v d
  | .none, _, .non => .non
  | .bool _, _, .bl b => .bl b
  | .int _, _, .int i => .int i
  | .str _, _, .str x => .str x
  | .list ds, _, .lst h A => .lst (by
      rcases h with (h | ⟨o, h⟩) | h
      · exact .inl (.inl (by rw [off2_ne (fun z => (big_not ha).1 _ (z ▸ h)) (fun z => (big_not hb).1 _ (z ▸ h))]; exact h))
      · exact .inl (.inr ⟨o, by rw [off2_ne (fun z => (big_not ha).2.1 _ _ (z ▸ h)) (fun z => (big_not hb).2.1 _ _ (z ▸ h))]; exact h⟩)
      · exact .inr h) (DqAll.off ha hb ds _ A)
  | .tuple ds, _, .tup h A => .tup (by
      rcases h with ⟨o, h, d⟩ | h
      · exact .inl ⟨o, by rw [off2_ne (fun z => (big_not ha).2.2.1 _ _ (z ▸ h)) (fun z => (big_not hb).2.2.1 _ _ (z ▸ h))]; exact h, d⟩
      · exact .inr h) (DqAll.off ha hb ds _ A)
  | .dict [], _, .dic h => .dic (off_at (fun z => (big_not ha).2.2.2 (z ▸ h)) (fun z => (big_not hb).2.2.2 (z ▸ h)) h)
theorem DqAll.off {K : PySem.W.Frag} {H : Hp} {a b : Addr} (ha : BigD H a) (hb : BigD H b) : ∀ (ds : List PyData) (vs : List V), DqAll K H vs ds → DqAll K (off2 H a b) vs ds
  | [], _, .nil => .nil
  | d :: ds, _, .cons h r => .cons (Dq.off ha hb d _ h) (DqAll.off ha hb ds _ r)
end
/-! ### the program's table by a hole, over the data -/
def madeB (h : Ho) : List (Str × PyData) → List (Str × PyData) → List (Str × PyData)
  | [], acc => acc
  | (y, k) :: r, acc => madeB h r (putB acc (calD y h) (kmd 30 k h))
theorem madeB_snoc (h : Ho) (p : Str × PyData) : ∀ (l acc : List (Str × PyData)), madeB h (l ++ [p]) acc = putB (madeB h l acc) (calD p.1 h) (kmd 30 p.2 h)
  | [], _ => rfl
  | (y, k) :: l, acc => madeB_snoc h p l _
theorem putB_ne {l : List (Str × PyData)} {x : Str} {v : PyData} : putB l x v ≠ [] := by
  unfold putB
  by_cases q : (l.any fun p => decide (p.1 = x)) = true
  · rw [if_pos q]
    intro z
    rw [List.map_eq_nil_iff] at z
    rw [z] at q
    cases q
  · rw [if_neg q]
    intro z
    have := congrArg List.length z
    rw [List.length_append] at this
    simp at this
theorem madeB_ne {h : Ho} : ∀ {l acc : List (Str × PyData)}, acc ≠ [] → madeB h l acc ≠ []
  | [], _, n => n
  | (y, k) :: l, acc, _ => madeB_ne (l := l) putB_ne
structure FB (ds : List PyData) (h : Ho) (fb : List (Str × PyData)) : Prop where
  nd : (fb.map (·.1)).Nodup
  a : ∀ x v, lookB fb x = some v → ByP ds h x v
  o : ∀ x v, lookB (bkOf (.tuple ds)) x = some v → lookB fb x = some v
  n : ∀ p ∈ bkOf (.tuple ds), lookB fb (calD p.1 h) = some (kmd 30 p.2 h)
  few : fb.length ≤ 2 * ds.length
theorem made_inv {ds : List PyData} {h : Ho} (u : ∀ {x v w}, ByP ds h x v → ByP ds h x w → v = w) (dl : ∀ p ∈ bkOf (.tuple ds), lookB (bkOf (.tuple ds)) p.1 = some p.2) :
    ∀ (rest pre acc : List (Str × PyData)), (∀ p ∈ rest, p ∈ bkOf (.tuple ds)) → (acc.map (·.1)).Nodup → (∀ x v, lookB acc x = some v → ByP ds h x v) → (∀ x v, lookB (bkOf (.tuple ds)) x = some v → lookB acc x = some v) → (∀ p ∈ pre, lookB acc (calD p.1 h) = some (kmd 30 p.2 h)) →
      ((madeB h rest acc).map (·.1)).Nodup ∧ (∀ x v, lookB (madeB h rest acc) x = some v → ByP ds h x v) ∧ (∀ x v, lookB (bkOf (.tuple ds)) x = some v → lookB (madeB h rest acc) x = some v) ∧ (∀ p ∈ pre ++ rest, lookB (madeB h rest acc) (calD p.1 h) = some (kmd 30 p.2 h)) ∧ (madeB h rest acc).length ≤ acc.length + rest.length
  | [], pre, acc, _, n, a, o, b => by
    rw [List.append_nil]
    exact ⟨n, a, o, b, Nat.le_refl _⟩
  | (y, k) :: rest, pre, acc, m, n, a, o, b => by
    have ly := dl _ (m _ List.mem_cons_self)
    obtain ⟨a1, k1, s1⟩ := put_keep u a (x := calD y h) (v := kmd 30 k h) (.inr ⟨y, k, ly, rfl, rfl⟩)
    obtain ⟨r1, r2, r3, r4, r5⟩ := made_inv u dl rest (pre ++ [(y, k)]) _ (fun p mp => m p (List.mem_cons_of_mem _ mp)) (put_nodup n (calD y h) (kmd 30 k h)) a1 (fun x v l => k1 _ _ (o x v l)) (fun p mp => by
      rcases List.mem_append.mp mp with mp | mp
      · exact k1 _ _ (b p mp)
      · rw [List.mem_singleton.mp mp]
        exact s1)
    rw [List.append_assoc] at r4
    refine ⟨r1, r2, r3, r4, ?_⟩
    have := put_len acc (calD y h) (kmd 30 k h)
    show (madeB h rest (putB acc (calD y h) (kmd 30 k h))).length ≤ _
    rw [List.length_cons]
    omega
theorem bk_dist {j : Nat} {ds : List PyData} (b : BookL j ds) : Dist (bkOf (.tuple ds)) := by
  unfold Dist bkOf
  rw [List.pairwise_map]
  exact b.up.imp fun z => less_ne z
theorem madeB_fb {j : Nat} {ds : List PyData} {h : Ho} (b : BookL j ds) (k : HoW h) : FB ds h (madeB h (bkOf (.tuple ds)) (bkOf (.tuple ds))) := by
  have dist := bk_dist b
  have hbl : (bkOf (.tuple ds)).length = ds.length := List.length_map ..
  have nd : ((bkOf (.tuple ds)).map (·.1)).Nodup := by
    unfold List.Nodup
    rw [List.pairwise_map]
    exact dist
  obtain ⟨r1, r2, r3, r4, r5⟩ := made_inv (ds := ds) (h := h) (byP_one b k) (fun p mp => look_of dist mp) (bkOf (.tuple ds)) [] (bkOf (.tuple ds)) (fun p m => m) nd (fun x v l => .inl l) (fun x v l => l) (fun p m => nomatch m)
  exact ⟨r1, r2, r3, r4, by omega⟩
def rowD (p : Str × PyData) : PyData := .tuple [.str p.1, p.2]
theorem bk_rows (fb : List (Str × PyData)) : bkOf (.tuple (fb.map rowD)) = fb := by
  show (fb.map rowD).map _ = fb
  rw [List.map_map]
  exact (List.map_congr_left fun p _ => rfl).trans (List.map_id fb)
theorem byH_fb {ds : List PyData} {h : Ho} {fb fb' : List (Str × PyData)} (F : FB ds h fb) (p : fb'.Perm fb) (ne : ds ≠ []) (up : fb'.Pairwise fun a b => lessS a.1 b.1 = true) : ByH ds (fb'.map rowD) h := by
  have nd' : (fb'.map (·.1)).Nodup := (p.map (·.1)).nodup_iff.mpr F.nd
  have key : ∀ x v, lookB fb x = some v → lookB (bkOf (.tuple (fb'.map rowD))) x = some v := fun x v l => by
    rw [bk_rows]
    obtain ⟨pr, mp, rfl, rfl⟩ := look_mem l
    exact look_nodup nd' (p.mem_iff.mpr mp)
  refine ⟨fun r mr => ?_, fun y k l => key _ _ (F.o _ _ l), fun y k l => ?_, ?_, fun z => ?_, ?_⟩
  · obtain ⟨pr, mp, rfl⟩ := List.mem_map.mp mr
    exact ⟨pr.1, pr.2, rfl, F.a _ _ (look_nodup F.nd (p.mem_iff.mp mp))⟩
  · obtain ⟨pr, mp, rfl, rfl⟩ := look_mem l
    exact key _ _ (F.n _ mp)
  · rw [List.pairwise_map]
    exact up
  · have z2 := List.map_eq_nil_iff.mp z
    subst z2
    have e : fb = [] := List.eq_nil_of_length_eq_zero (by rw [← p.length_eq]; rfl)
    cases eds : ds with
    | nil => exact ne eds
    | cons r rs =>
      have := F.n (rowN r, rowK r) (by rw [eds]; exact List.mem_cons_self)
      rw [e] at this
      cases this
  · rw [List.length_map, p.length_eq]
    exact F.few
theorem paired_ne {α β : Type} {R : α → β → Prop} {xs : List α} {ys : List β} (p : Paired R xs ys) (n : ys ≠ []) : ∃ q r, xs = q :: r := by
  cases p with
  | nil => exact absurd rfl n
  | cons _ _ => exact ⟨_, _, rfl⟩
def spTm (K : PySem.W.Frag) : Sp := fun vs H Q _ => ∃ (t : Addr) (u : V) (kvs : List (Key × V)) (ds : List PyData) (j : Nat) (h : Ho), vs = [.ref t, u] ∧ H t = some (.dK kvs) ∧ Paired (TabR K H) kvs (bkOf (.tuple ds)) ∧ BookL j ds ∧ j ≤ 2 ∧ Dq K H u (hoD h) ∧ HoW h ∧
  ∀ (t' : Addr) (H' : Hp) (kvs' : List (Key × V)) (fb : List (Str × PyData)), Same H H' → H t' = none → H' t' = some (.dK kvs') → Paired (TabR K H') kvs' fb → FB ds h fb → Q (.ref t') H'
section
variable {P : Program} {w : World} {K : PySem.W.Frag} {mg : Str → Option Value} {base : Heap}
theorem scTm : FnScope ["table", "hole", "told", "name"] ["table", "hole"] (defScope sTabMade) := ⟨rfl, rfl, rfl, by decide +kernel, rfl, by decide +kernel, by decide +kernel⟩
theorem ok_tablemade {f gN gK : Addr} {fd dN dK : FuncData} (F : Fun K "table_made" "table_made" sTabMade f fd) (DI : mg "dict" = none) (NM : Gv P w K mg base 1 "name_made" gN dN ["name", "hole"] (spCal K)) (KM : Gv P w K mg base 62 "kind_made" gK dK ["kind", "hole"] (spKm K 30)) : FnOk P w K mg base CX0 63 f fd ["table", "hole"] (spTm K) := by
  refine F.ok scTm (fun vs H Q E h => ?_) (fun cdv A outer s H vs Q E hr h => ?_)
  · obtain ⟨t, u, kvs, ds, j, h, rfl, _⟩ := h
    rfl
  obtain ⟨t, u, kvs, ds, j, h, rfl, ht, tp, b, hj, hu, kw, q⟩ := h
  have hr1 : Room 1 (A.deeper _) := hr.mono (by omega)
  have hrk : Room 62 (A.deeper _) := hr
  have hu1 := Nat.lt_of_le_of_lt (Nat.add_le_add_left (by decide : 1 ≤ 64) _) hr.units
  refine ⟨_, (pss_cons (ps_set (i := 2) scTm.nd rfl (.inl rfl) (pe_callTy call_dictD rfl DI (by decide +kernel) (pa_cons (pv 0) pa_nil)))
    (pss_cons (ps_lock (ps_for PassesOwn.never rfl (pi_keys (pv 0)) (pg_name (i := 3) scTm.nd rfl (.inl rfl)) (pss_one (ps_dput hu1 (pv 2) (pe_call NM.ok hr1 rfl NM.m NM.k NM.b .nil pass0 (pa_cons (pv 3) (pa_cons (pv 1) pa_nil))) (pe_call KM.ok hrk rfl KM.m KM.k KM.b .nil pass0 (pa_cons (pe_dget hu1 (pv 0) (pv 3) (fun _ _ => rfl)) (pa_cons (pv 1) pa_nil))) rfl))))
    (pss_one (ps_ret (pv 2))))), ?_⟩
  have zs : ∀ {k : Nat}, k ≤ 200 → k < sizeLine := fun h => Nat.lt_of_le_of_lt h (by decide)
  have dist := bk_dist b
  have hbl : (bkOf (.tuple ds)).length = ds.length := List.length_map ..
  have bne : bkOf (.tuple ds) ≠ [] := fun z => b.ne (List.eq_nil_of_length_eq_zero (by rw [← hbl, z]; rfl))
  obtain ⟨q0, r0, ek⟩ := paired_ne tp bne
  have bigT : BigD H t := ⟨q0, r0, .inl (by rw [← ek]; exact ht)⟩
  refine ⟨_, rfl, t, kvs, rfl, .inl ht, fun o ho => ?_⟩
  have nto : t ≠ o := fun z => by rw [z, ho] at ht; cases ht
  refine ⟨t, .dK kvs, same_new ho _ _ _ ht, trivial, fun od => ?_⟩
  refine ⟨_, rfl, t, od, rfl, .inl ⟨kvs, upd_same, ?_⟩⟩
  have srcS : ∀ H', (∀ x w, x ≠ t → H x = some w → H' x = some w) → Same (off2 H t t) (off2 H' t o) := fun H' k x w e => by
    obtain ⟨n1, _, e2⟩ := off2_inv e
    rw [off2_ne n1 (ne_of_none e2 ho)]
    exact k x w n1 e2
  have tpo : Paired (TabR K (off2 H t t)) kvs (bkOf (.tuple ds)) := paired_imp (fun kv p z => ⟨z.1, Dq.off bigT bigT _ _ z.2⟩) tp
  have huo := Dq.off bigT bigT _ _ hu
  refine for_it (walk_keys (kvs := kvs)) (fun i σ H' => ∃ acc c, σ = [some (.ref t), some u, some (.ref o), c] ∧ (∀ x w, x ≠ t → H x = some w → H' x = some w) ∧ H' t = some (.frz od (.dK kvs)) ∧ H' o = some (.dK acc) ∧ Paired (TabR K (off2 H' t o)) acc (madeB h ((bkOf (.tuple ds)).take i) (bkOf (.tuple ds))) ∧ acc.length ≤ kvs.length + i)
    ⟨kvs, none, rfl, (fun x w n e => by rw [upd_ne n, upd_ne (ne_of_none e ho)]; exact e), upd_same, (by rw [upd_ne (Ne.symm nto), upd_same]), ?_, Nat.le_refl _⟩ (fun i σ H' _ ⟨_, _, _, _, z, _⟩ => z) ?_ ?_
  · have k0 : ∀ x w, x ≠ t → H x = some w → upd (upd H o (.dK kvs)) t (.frz od (.dK kvs)) x = some w := fun x w n e => by rw [upd_ne n, upd_ne (ne_of_none e ho)]; exact e
    exact paired_imp (fun kv p z => ⟨z.1, Dq.mono (srcS _ k0) _ _ z.2⟩) tpo
  · rintro i y0 σ H5' H5 hi ⟨acc, c, rfl, k5, t5, o5, tp5, l5⟩ ⟨rfl, k, v0, hk, rfl⟩
    obtain ⟨p, hp, hR⟩ := LiI.paired_get tp hk
    have ekk : k = Sum.inr p.1 := hR.1
    subst ekk
    have mp : p ∈ bkOf (.tuple ds) := List.mem_of_getElem? hp
    obtain ⟨r, mr, er⟩ := List.mem_map.mp mp
    obtain ⟨y, kk, rfl, ty, lv, tx⟩ := b.rows r mr
    have ep : p = (y, kk) := er.symm
    subst ep
    have sO := srcS H5 k5
    rcases tab_look (x := y) tpo with ⟨_, l0⟩ | ⟨v1, d1, e1, l1, D1⟩
    · rw [look_of dist mp] at l0
      cases l0
    have ed : d1 = kk := by
      rw [look_of dist mp] at l1
      exact (Option.some.inj l1).symm
    subst ed
    have gk : DGet H5 t (kV (Sum.inr y)) (valV kvs (Sum.inr y)) := .inl ⟨kvs, Sum.inr y, .inr ⟨od, t5⟩, rfl, rfl⟩
    rw [e1] at gk
    have D1' : Dq K H5 v1 d1 := Dq.mono off2_sub _ _ (Dq.mono sO _ _ D1)
    have hu5 : Dq K H5 u (hoD h) := Dq.mono off2_sub _ _ (Dq.mono sO _ _ huo)
    have kd := kd_down (lv.kd (m := 30) (by decide))
    refine ⟨_, rfl, _, rfl, t, v1, rfl, gk, _, rfl, v1, u, d1, h, rfl, D1', kd.1, tx, by have := kd.2; omega, hu5, how_ok kw, fun v6 H6 s6 D6 => ?_⟩
    have t6 := s6 _ _ t5
    have o6 := s6 _ _ o5
    obtain ⟨qa, ra, ea⟩ := paired_ne tp5 (madeB_ne bne)
    have bigT6 : BigD H6 t := ⟨q0, r0, .inr ⟨od, by rw [← ek]; exact t6⟩⟩
    have bigO6 : BigD H6 o := ⟨qa, ra, .inl (by rw [← ea]; exact o6)⟩
    have D6' := Dq.off bigT6 bigO6 _ _ D6
    have s56 : Same (off2 H5 t o) (off2 H6 t o) := fun x w e => by
      obtain ⟨n1, n2, e2⟩ := off2_inv e
      rw [off2_ne n1 n2]
      exact s6 _ _ e2
    have tp6 := paired_put (x := calD y h) (paired_imp (fun kv p z => ⟨z.1, Dq.mono s56 _ _ z.2⟩) tp5) D6'
    have lk : kvs.length = ds.length := by rw [tp.length, hbl]
    have few := b.few
    refine ⟨_, rfl, _, rfl, _, rfl, y, u, h, rfl, Dq.mono s6 _ _ hu5, txt_up ty (by omega), ho_up (how_ok kw), o, _, rfl, DPut.k (k := .inr (calD y h)) o6 (zs (by omega)), ?_⟩
    have eoff : off2 (upd H6 o (.dK (putK acc (.inr (calD y h)) v6))) t o = off2 H6 t o := by
      funext x
      unfold off2
      by_cases q1 : x = t ∨ x = o
      · rw [if_pos q1, if_pos q1]
      · rw [if_neg q1, if_neg q1, upd_ne (fun z => q1 (.inr z))]
    refine ⟨_, _, rfl, (fun x w n e => by rw [upd_ne (ne_of_none e ho)]; exact s6 _ _ (k5 x w n e)), by rw [upd_ne nto]; exact t6, upd_same, ?_, ?_⟩
    · rw [eoff, List.take_add_one, hp]
      show Paired _ _ (madeB h (_ ++ [(y, d1)]) _)
      rw [madeB_snoc]
      exact tp6
    · have := length_putK acc (.inr (calD y h)) v6
      omega
  · rintro σ H5 ⟨acc, c, rfl, k5, t5, o5, tp5, l5⟩
    rw [tp.length, List.take_length] at tp5
    refine ⟨t5, _, rfl, q o _ acc _ (fun x w e => ?_) ho (by rw [upd_ne (Ne.symm nto)]; exact o5) (paired_imp (fun kv p z => ⟨z.1, Dq.mono (fun x w e => ?_) _ _ z.2⟩) tp5) (madeB_fb b kw)⟩
    · by_cases n : x = t
      · subst n
        rw [upd_same, ← ht]
        exact e
      · rw [upd_ne n]
        exact k5 x w n e
    · obtain ⟨n1, n2, e2⟩ := off2_inv e
      rw [upd_ne n1]
      exact e2
end
end Toy
set_option Elab.async false
set_option linter.all false
set_option maxRecDepth 100000
set_option maxHeartbeats 2000000
namespace Toy
open PySem L2 PyProof.Rows LamX
abbrev sBookBy : Stmt := top 58
/-! ### a def whose code object is known -/
structure FunC (K : PySem.W.Frag) (x qual : Str) (st : Stmt) (f : Addr) (fd : FuncData) (c : Addr) : Prop where
  ex : ∃ (oc : Value) (od : Option Addr) (kV doc pm : Value) (an : Option Addr) (ct : Value) (osl : Array (Option Value)),
    fd = PySem.W.fnOf x qual (defArgs st) (defBody st) (defScope st) .none kV doc pm an (.ref c) ct ∧ K.lookup f = some ⟨oc, od, .func fd, osl⟩ ∧ PySem.W.codeIn K (.ref c) qual = true
  kp : PySem.W.keepIn K (.ref f) = true
theorem FunC.ok {P : Program} {w : World} {K : PySem.W.Frag} {mg : Str → Option Value} {base : Heap} {x qual : Str} {st : Stmt} {f c : Addr} {fd : FuncData} {N ps : List Str} {k : Nat} {sp : Sp} (F : FunC K x qual st f fd c) (S : FnScope N ps (defScope st)) (len : ∀ vs H Q E, sp vs H Q E → vs.length = ps.length)
    (hbody : ∀ (A : Around) (outer : List Env) (s : Shared) (H : Hp) (vs : List V) (Q : VK) (E : XK), Room k (A.deeper (envOfC qual (defScope st) s.heap.objs.size f (.ref c))) → sp vs H Q E →
      ∃ t, PSs (cxOf CX0 P w K mg base N qual (defScope st) f (.ref c) A outer s H E).nox (defBody st) t ∧ t { nx := fun _ H' => Q .non H', rt := Q } (L2.start N vs) H) : FnOk P w K mg base CX0 (k + 1) f fd ps sp := by
  obtain ⟨oc, od, kV, doc, pm, an, ct, osl, rfl, lk, hcd⟩ := F.ex
  refine fn_of lk hcd S len fun A outer s H vs Q E hr hsp => ?_
  obtain ⟨t, h, q⟩ := hbody A outer s H vs Q E hr hsp
  exact ⟨t, h.nox, q⟩
theorem hfree_by {names : List (Str × NameKind)} {cells : List (Str × Addr)} (h : (names.all fun y => !decide (y.2 = .free)) = true) : ∀ y ∈ names, y.2 = .free → ∃ c, cells.lookup y.1 = some c := fun y hy e => by
  have := List.all_eq_true.mp h y hy
  rw [e] at this
  cases this
/-! ### texts and tuples stay where the tuples stay -/
mutual
theorem Dq.ext {K : PySem.W.Frag} {H H' : Hp} (e : ∀ a o xs, H a = some (.frz o (.tup xs)) → H' a = some (.frz o (.tup xs))) : ∀ (d : PyData) (v : V), stB d = true → Dq K H v d → Dq K H' v d
  | .str x, _, _, .str _ => .str x
  | .tuple ds, _, h, .tup q A => .tup (by
      rcases q with ⟨o, q, d⟩ | q
      · exact .inl ⟨o, e _ _ _ q, d⟩
      · exact .inr q) (DqAll.ext e ds _ h A)
  | .none, _, h, _ => nomatch h
  | .bool _, _, h, _ => nomatch h
  | .int _, _, h, _ => nomatch h
  | .list _, _, h, _ => nomatch h
  | .dict _, _, h, _ => nomatch h
theorem DqAll.ext {K : PySem.W.Frag} {H H' : Hp} (e : ∀ a o xs, H a = some (.frz o (.tup xs)) → H' a = some (.frz o (.tup xs))) : ∀ (ds : List PyData) (vs : List V), stA ds = true → DqAll K H vs ds → DqAll K H' vs ds
  | [], _, _, .nil => .nil
  | d :: ds, _, h, .cons p r => by
    have h' : (stB d && stA ds) = true := h
    rw [Bool.and_eq_true] at h'
    exact .cons (Dq.ext e d _ h'.1 p) (DqAll.ext e ds _ h'.2 r)
end
theorem extN_tup {H H' : Hp} (e : ExtN H H') : ∀ a o xs, H a = some (.frz o (.tup xs)) → H' a = some (.frz o (.tup xs)) := fun a o xs q => e a _ q (fun ps z => by cases z)
theorem paired_perm {α β : Type} {R : α → β → Prop} {xs xs' : List α} (p : xs'.Perm xs) : ∀ {ys : List β}, Paired R xs ys → ∃ ys', Paired R xs' ys' ∧ ys'.Perm ys := by
  induction p with
  | nil => intro ys r; exact ⟨ys, r, .refl _⟩
  | cons x _ ih =>
    intro ys r
    cases r with
    | cons h t =>
      obtain ⟨ys', r', p'⟩ := ih t
      exact ⟨_ :: ys', .cons h r', p'.cons _⟩
  | swap x y l =>
    intro ys r
    cases r with
    | cons h t =>
      cases t with
      | cons h2 t2 => exact ⟨_ :: _ :: _, .cons h2 (.cons h t2), .swap _ _ _⟩
  | trans _ _ ih1 ih2 =>
    intro ys r
    obtain ⟨y1, r1, p1⟩ := ih2 r
    obtain ⟨y2, r2, p2⟩ := ih1 r1
    exact ⟨y2, r2, p2.trans p1⟩
theorem byP_st {j : Nat} {ds : List PyData} {h : Ho} (b : BookL j ds) (kw : HoW h) {x : Str} {v : PyData} (p : ByP ds h x v) : stB v = true ∧ (j ≤ 2 → PyData.strOk x = true) := by
  have row : ∀ {x : Str} {w : PyData}, lookB (bkOf (.tuple ds)) x = some w → Lvl j w ∧ txtB w = true ∧ txtOk x (8 + 9 * j) := fun {x w} l => by
    obtain ⟨p, mp, e1, e2⟩ := look_mem l
    obtain ⟨r, mr, rfl⟩ := List.mem_map.mp mp
    obtain ⟨y1, k1, rfl, t1, l1, x1⟩ := b.rows r mr
    have e1' : y1 = x := e1
    have e2' : k1 = w := e2
    subst e1' e2'
    exact ⟨l1, x1, t1⟩
  rcases p with l | ⟨y, k, l, rfl, rfl⟩
  · obtain ⟨lv, tx, ty⟩ := row l
    obtain ⟨n, hn, f, _⟩ := lv.form
    exact ⟨fB_st _ _ f tx, fun _ => ty.1⟩
  · obtain ⟨lv, tx, ty⟩ := row l
    obtain ⟨n, hn, f, _⟩ := lv.form
    exact ⟨kmd_st 30 k h (fB_fuel f (by omega)) tx (how_ok kw), fun _ => (calD_ok ty (how_ok kw)).1⟩
def lamT (P : Addr) : List (Addr × Str) := [(P, (("book_by" : Str) ++ ".<locals>.") ++ "<lambda>")]
def spBb (K : PySem.W.Frag) (m : Nat) (P : Addr) : Sp := fun vs H Q _ => ∃ (v x : V) (ds : List PyData) (j : Nat) (h : Ho), vs = [v, x] ∧ BookAt K m H v (.tuple ds) ∧ BookL j ds ∧ j ≤ 2 ∧ HoleAt K m H x (.tuple ds) h ∧ HoW h ∧ Tabs (lamT P) H ∧
  ∀ (v' : V) (H' : Hp) (ds' : List PyData), ExtN H H' → Tabs (lamT P) H' → Dq K H' v' (.tuple ds') → ByH ds ds' h → Q v' H'
theorem less_of {a b : Str} (ne : a ≠ b) (h : ¬ b.cps.toList < a.cps.toList) : lessS a b = true := by
  refine decide_eq_true ?_
  rcases Std.lt_trichotomy a.cps.toList b.cps.toList with z | z | z
  · exact z
  · exact absurd (str_ext z) ne
  · exact absurd z h
section
variable {P : Program} {w : World} {K : PySem.W.Frag} {mg : Str → Option Value} {base : Heap} {m : Nat} {C : Addr}
theorem scBb : FnScope ["book", "hole", "table"] ["book", "hole"] (defScope sBookBy) := ⟨rfl, rfl, rfl, by decide +kernel, rfl, by decide +kernel, by decide +kernel⟩
theorem ok_bookby {f c PT gT gH gM : Addr} {fd dT dH dM : FuncData} (F : FunC K "book_by" "book_by" sBookBy f fd c) (hm : 30 ≤ m) (TB : TabB base mg c PT) (SG : mg "sorted" = none) (TU : mg "tuple" = none) (TO : GvX P w K mg base 64 "table_of" gT dT ["book"] (spTo K m C)) (CH : Gv P w K mg base 7 "check_hole" gH dH ["table", "hole"] (spCh K m))
    (TM : Gv P w K mg base 63 "table_made" gM dM ["table", "hole"] (spTm K)) : FnOk P w K mg base CX0 65 f fd ["book", "hole"] (spBb K m PT) := by
  refine F.ok scBb (fun vs H Q E h => ?_) (fun A outer s H vs Q E hr h => ?_)
  · obtain ⟨v, x, ds, j, h, rfl, _⟩ := h
    rfl
  obtain ⟨v, x, ds, j, h, rfl, ⟨hd, tp, ht, hdp, ok⟩, b, hj, hh, kw, tabs, q⟩ := h
  have hr7 : Room 7 (A.deeper _) := hr.mono (by omega)
  have hr63 : Room 63 (A.deeper _) := hr.mono (by omega)
  have hr3 : Room 3 (A.deeper _) := hr.mono (by omega)
  have hmT : (PT, (("book_by" : Str) ++ ".<locals>.") ++ "<lambda>") ∈ lamT PT := List.mem_singleton.mpr rfl
  have huT : ∀ p ∈ lamT PT, p.1 = PT → p.2 = (("book_by" : Str) ++ ".<locals>.") ++ "<lambda>" := fun p mp _ => by rw [List.mem_singleton.mp mp]
  refine ⟨_, (pss_cons (ps_set (i := 2) scBb.nd rfl (.inl rfl) (pe_call TO.ok hr rfl TO.m TO.k TO.b .nil passL (pa_cons (pv 0) pa_nil)))
    (pss_cons (ps_expr (pe_call CH.ok hr7 rfl CH.m CH.k CH.b .nil pass0 (pa_cons (pv 2) (pa_cons (pv 1) pa_nil))))
    (pss_one (ps_ret (pe_callTy call_tupleN rfl TU (by decide +kernel) (pa_cons (Lrow.pe_sortIt rfl (pe_call TM.ok hr63 rfl TM.m TM.k TM.b .nil pass0 (pa_cons (pv 2) (pa_cons (pv 1) pa_nil))) rfl SG TB rfl hmT huT hr3 rfl (hfree_by (by decide +kernel)) rfl rfl rfl rfl rfl (fun _ _ _ _ _ => rfl)) pa_nil)))))), ?_⟩
  refine ⟨_, rfl, v, .tuple ds, rfl, hd, tp, ht, hdp, fun _ t H1 s1 tb => ?_, fun e => by rw [ok] at e; cases e⟩
  obtain ⟨h1, h2, h3, h4⟩ := hh.on s1
  refine ⟨_, rfl, _, rfl, t, x, hoD h, bkOf (.tuple ds), rfl, tb, h1, h3, Nat.le_trans (hoD_two h) (by omega), h4, fun H2 s2 => ?_⟩
  obtain ⟨kvs, et, ep⟩ := tb.on s2
  refine ⟨_, rfl, _, rfl, t, x, kvs, ds, j, h, rfl, et, ep, b, hj, Dq.mono s2 _ _ h1, kw, fun t' H3 kvs' fb s3 n3 e3 tp3 FBf => ?_⟩
  have s03 := (s1.trans s2).trans s3
  refine ⟨t', kvs', rfl, e3, fun p mp => ?_, tabs.ext s03, fun H4 p ts kvs2 eN T4 np hp nts pairs pm pw => ?_⟩
  · obtain ⟨i, hi⟩ := List.getElem?_of_mem mp
    obtain ⟨y, _, r⟩ := LiI.paired_get tp3 hi
    exact ⟨y.1, r.1⟩
  refine ⟨p, _, rfl, .inl ⟨SqL.of hp, fun l o hl ho => ?_⟩⟩
  obtain ⟨fb', r', pp⟩ := paired_perm pm tp3
  have e34 := extN_tup eN
  have mem : ∀ p ∈ fb', stB p.2 = true := fun p mp => (byP_st b kw (FBf.a _ _ (look_nodup FBf.nd (pp.mem_iff.mp mp)))).1
  have rows : DqAll K H4 (ts.map V.ref) (fb'.map rowD) := by
    have go : ∀ {ts : List Addr} {ks : List (Key × V)} {fs : List (Str × PyData)}, Paired (fun t q => ∃ o : Obj, o.dict = none ∧ H4 t = some (.frz o (.tup [kV q.1, q.2]))) ts ks → Paired (TabR K H3) ks fs → (∀ p ∈ fs, stB p.2 = true) → DqAll K H4 (ts.map V.ref) (fs.map rowD) := by
      intro ts ks fs a
      induction a generalizing fs with
      | nil => intro c _; cases c; exact .nil
      | @cons t q ts ks r _ ih =>
        intro c hs
        cases c with
        | @cons _ p _ _ c1 c2 =>
          obtain ⟨o, ho, eo⟩ := r
          have ek : kV q.1 = V.str p.1 := by rw [c1.1]; rfl
          rw [ek] at eo
          exact .cons (.tup (SqP.of eo ho) (.cons (.str _) (.cons (Dq.ext e34 _ _ (hs _ List.mem_cons_self) c1.2) .nil))) (ih c2 fun p mp => hs p (List.mem_cons_of_mem _ mp))
    exact go pairs r' mem
  have up : fb'.Pairwise fun a b => lessS a.1 b.1 = true := by
    have nd' : (fb'.map (·.1)).Nodup := (pp.map (·.1)).nodup_iff.mpr FBf.nd
    have nd2 : fb'.Pairwise fun a b => a.1 ≠ b.1 := List.pairwise_map.mp nd'
    have pw2 : fb'.Pairwise fun a b => ¬ b.1.cps.toList < a.1.cps.toList := by
      have go : ∀ {ks : List (Key × V)} {fs : List (Str × PyData)}, Paired (TabR K H3) ks fs → (ks.Pairwise fun a b => ¬ (Lrow.kTx b.1).cps.toList < (Lrow.kTx a.1).cps.toList) → fs.Pairwise fun a b => ¬ b.1.cps.toList < a.1.cps.toList := by
        intro ks fs c
        induction c with
        | nil => intro _; exact .nil
        | @cons k p ks fs c1 c2 ih =>
          intro h
          obtain ⟨h1, h2⟩ := List.pairwise_cons.mp h
          refine List.pairwise_cons.mpr ⟨fun p' mp => ?_, ih h2⟩
          obtain ⟨i, hi⟩ := List.getElem?_of_mem mp
          obtain ⟨k', hk', r⟩ : ∃ k', ks[i]? = some k' ∧ TabR K H3 k' p' := by
            have go2 : ∀ {ks : List (Key × V)} {fs : List (Str × PyData)}, Paired (TabR K H3) ks fs → ∀ {i : Nat} {p : Str × PyData}, fs[i]? = some p → ∃ k, ks[i]? = some k ∧ TabR K H3 k p := by
              intro ks fs c
              induction c with
              | nil => intro i p h; cases h
              | cons c1 _ ih =>
                intro i p h
                cases i with
                | zero => cases h; exact ⟨_, rfl, c1⟩
                | succ i => exact ih h
            exact go2 c2 hi
          have := h1 k' (List.mem_of_getElem? hk')
          rw [r.1, c1.1] at this
          exact this
      exact go r' pw
    exact List.Pairwise.imp₂ (fun a b n l => less_of n l) nd2 pw2
  have nl := same_new hl (.frz o (.tup (ts.map V.ref)))
  refine q (.ref l) _ (fb'.map rowD) ((ExtN.of s03).trans (eN.trans (ExtN.of nl))) (T4.ext nl) (.tup (SqP.of upd_same ho) (DqAll.mono nl _ _ rows)) (byH_fb FBf pp b.ne up)
end
end Toy
set_option Elab.async false
set_option linter.all false
set_option maxRecDepth 100000
set_option maxHeartbeats 1000000
namespace Toy
open PySem L2 PyProof.Rows
/-! ### weights -/
theorem gd_name {x : Str} {m j : Nat} (h : txtOk x m) (hm : m ≤ 100 + j) : Gd (.tuple [.str "name", .str x]) j (m + 6) 1 := by
  have l4 : ("name" : Str).cps.size = 4 := by decide +kernel
  have lx : x.cps.size ≤ m := h.2
  refine ⟨?_, ?_, ?_⟩
  · show (gdB j (.str "name") && (gdB j (.str x) && true)) = true
    rw [(gd_str (x := "name") (n := 8) (j := j) (txt_lit (by decide +kernel)) (by omega)).g, (gd_str h (j := j) hm).g]
    rfl
  · simp only [PyData.weight, PyData.weightAll]
    omega
  · simp only [PyData.depth, PyData.depthAll]
    omega
theorem gd_word {x : Str} {j : Nat} (h : txtOk x 8) : Gd (.tuple [.str x]) j 10 1 := by
  have lx : x.cps.size ≤ 8 := h.2
  refine ⟨?_, ?_, ?_⟩
  · show (gdB j (.str x) && true) = true
    rw [(gd_str h (j := j) (by omega)).g]
    rfl
  · simp only [PyData.weight, PyData.weightAll]
    omega
  · simp only [PyData.depth, PyData.depthAll]
    omega
theorem gd_tuple {ds : List PyData} {j w k : Nat} (h : ∀ d ∈ ds, gdB j d = true ∧ d.depth + 1 ≤ k) (hw : PyData.weightAll ds ≤ w) (hk : 1 ≤ k) : Gd (.tuple ds) j w k := by
  refine ⟨?_, ?_, ?_⟩
  · show gdA j ds = true
    exact gdA_iff.mpr fun d m => (h d m).1
  · simp only [PyData.weight]; exact hw
  · have := dA_le (k := k - 1) (l := ds) fun d m => by have := (h d m).2; omega
    simp only [PyData.depth]
    omega
theorem gd_list {ds : List PyData} {j w k : Nat} (h : ∀ d ∈ ds, gdB j d = true ∧ d.depth + 1 ≤ k) (hw : PyData.weightAll ds ≤ w) (hk : 1 ≤ k) : Gd (.list ds) j w k := by
  refine ⟨?_, ?_, ?_⟩
  · show gdA j ds = true
    exact gdA_iff.mpr fun d m => (h d m).1
  · simp only [PyData.weight]; exact hw
  · have := dA_le (k := k - 1) (l := ds) fun d m => by have := (h d m).2; omega
    simp only [PyData.depth]
    omega
theorem w1_eq {w : Str} (h : w1 w = true) : w = "name" := by
  have z := of_decide_eq_true h
  injection z
theorem gd_row0 {word : Str} {a b : PyData} {j w1 w2 k : Nat} (tw : txtOk word 8) (ga : Gd a j w1 k) (gb : Gd b j w2 k) : Gd (.tuple [.str word, a, b]) j (w1 + w2 + 11) (k + 1) := by
  have lw : word.cps.size ≤ 8 := tw.2
  refine ⟨?_, ?_, ?_⟩
  · show (gdB j (.str word) && (gdB j a && (gdB j b && true))) = true
    rw [(gd_str tw (j := j) (by omega)).g, ga.g, gb.g]
    rfl
  · have x := ga.w
    have y := gb.w
    simp only [PyData.weight, PyData.weightAll]
    omega
  · have x := ga.k
    have y := gb.k
    simp only [PyData.depth, PyData.depthAll]
    omega
theorem fB_w : ∀ {n : Nat} {d : PyData}, fB n d = true → txtB d = true → (∀ x ∈ (ms n d).2.2, x.length ≤ 35) → gdB 0 d = true ∧ 2 * (d.weight + 11) ≤ 52 * ((ms n d).2.1 + 1) ∧ d.depth ≤ n
  | 0, _, f, _, _ => nomatch f
  | n + 1, d, f, t, hx => by
    rcases fB_cases f with ⟨w, rfl, hw⟩ | ⟨w, x, rfl, hw, hn⟩ | ⟨n', w, a, b, en, rfl, hw, ha, hb⟩
    · have g := gd_word (j := 0) (w3_txt hw)
      rw [p_one]
      have := g.w
      exact ⟨g.g, by omega, Nat.le_trans g.k (by omega)⟩
    · obtain rfl := w1_eq hw
      have tt : (txtB (.str "name") && (txtB (.str x) && true)) = true := t
      simp only [Bool.and_eq_true] at tt
      have tx : (PyData.strOk x && decide (x.length ≤ 2000)) = true := tt.2.1
      rw [Bool.and_eq_true] at tx
      have lx : x.length ≤ 35 := hx x (show x ∈ [x] from List.mem_singleton.mpr rfl)
      have g := gd_name (j := 0) (m := 35) ⟨tx.1, lx⟩ (by omega)
      rw [p_leaf]
      have := g.w
      exact ⟨g.g, by omega, Nat.le_trans g.k (by omega)⟩
    · have en' : n = n' := by omega
      subst en'
      have tt : (txtB (.str w) && (txtB a && (txtB b && true))) = true := t
      simp only [Bool.and_eq_true] at tt
      rw [ms_row] at hx
      obtain ⟨a1, a2, a3⟩ := fB_w ha tt.2.1 (fun x m => hx x (List.mem_append.mpr (.inl m)))
      obtain ⟨b1, b2, b3⟩ := fB_w hb tt.2.2.1 (fun x m => hx x (List.mem_append.mpr (.inr m)))
      have g := gd_row0 (w2_txt hw) (j := 0) (a := a) (b := b) (w1 := a.weight) (w2 := b.weight) (k := n) ⟨a1, Nat.le_refl _, a3⟩ ⟨b1, Nat.le_refl _, b3⟩
      rw [ms_row, two_parts]
      have := g.w
      exact ⟨g.g, by omega, g.k⟩
def sumN (f : PyData → Nat) (l : List PyData) : Nat := (l.map f).sum
theorem sumN_cons (f : PyData → Nat) (x : PyData) (l : List PyData) : sumN f (x :: l) = f x + sumN f l := by
  unfold sumN
  rw [List.map_cons, List.sum_cons]
theorem sumN_app (f : PyData → Nat) : ∀ a b : List PyData, sumN f (a ++ b) = sumN f a + sumN f b
  | [], b => by show sumN f b = 0 + sumN f b; omega
  | x :: a, b => by rw [List.cons_append, sumN_cons, sumN_cons, sumN_app f a b]; omega
theorem sumN_map (f : PyData → Nat) (g : PyData → PyData) : ∀ l : List PyData, sumN f (l.map g) = sumN (fun x => f (g x)) l
  | [] => rfl
  | x :: l => by rw [List.map_cons, sumN_cons, sumN_cons, sumN_map f g l]
theorem sumN_mono {f g : PyData → Nat} : ∀ {l : List PyData}, (∀ x ∈ l, f x ≤ g x) → sumN f l ≤ sumN g l
  | [], _ => Nat.le_refl _
  | x :: l, h => by
    rw [sumN_cons, sumN_cons]
    have := h x List.mem_cons_self
    have := sumN_mono (l := l) fun y m => h y (List.mem_cons_of_mem _ m)
    omega
theorem sumN_le {f : PyData → Nat} {c : Nat} : ∀ {l : List PyData}, (∀ x ∈ l, f x ≤ c) → sumN f l ≤ c * l.length
  | [], _ => Nat.zero_le _
  | x :: l, h => by
    rw [sumN_cons, List.length_cons, Nat.mul_succ]
    have := h x List.mem_cons_self
    have := sumN_le (l := l) fun y m => h y (List.mem_cons_of_mem _ m)
    omega
theorem sumN_sub {f : PyData → Nat} : ∀ {l M : List PyData}, l.Nodup → (∀ x ∈ l, x ∈ M) → sumN f l ≤ sumN f M
  | [], _, _, _ => Nat.zero_le _
  | x :: l, M, nd, h => by
    obtain ⟨A, B, e⟩ := List.append_of_mem (h x List.mem_cons_self)
    obtain ⟨n1, n2⟩ := List.nodup_cons.mp nd
    have ih := sumN_sub (f := f) (l := l) (M := A ++ B) n2 fun y m => by
      have z := h y (List.mem_cons_of_mem _ m)
      rw [e] at z
      rcases List.mem_append.mp z with z | z
      · exact List.mem_append.mpr (.inl z)
      · rcases List.mem_cons.mp z with rfl | z
        · exact absurd m n1
        · exact List.mem_append.mpr (.inr z)
    rw [e, sumN_app, sumN_cons, sumN_cons]
    rw [sumN_app] at ih
    omega
/-- all parts of a book's kinds -/
def TotS (ds : List PyData) : Prop := sumN (fun r => (ms 30 (rowK r)).2.1) ds ≤ 700
theorem rows_w {l : List PyData} (h : ∀ r ∈ l, ∃ y k, r = .tuple [.str y, k] ∧ txtOk y 35 ∧ 2 * (k.weight + 11) ≤ 52 * ((ms 30 k).2.1 + 1)) : 2 * PyData.weightAll l ≤ 52 * sumN (fun r => (ms 30 (rowK r)).2.1) l + 106 * l.length := by
  induction l with
  | nil => simp only [PyData.weightAll]; exact Nat.zero_le _
  | cons r l ih =>
    obtain ⟨y, k, rfl, ty, hw⟩ := h r List.mem_cons_self
    have i := ih fun x m => h x (List.mem_cons_of_mem _ m)
    have ly : y.cps.size ≤ 35 := ty.2
    rw [sumN_cons]
    have ek : rowK (.tuple [.str y, k]) = k := rfl
    rw [ek]
    simp only [PyData.weightAll, PyData.weight, List.length_cons]
    omega
theorem look_row {ds : List PyData} (hr : RowsP ds) {x : Str} {v : PyData} (l : lookB (bkOf (.tuple ds)) x = some v) : PyData.tuple [.str x, v] ∈ ds := by
  obtain ⟨p, mp, e1, e2⟩ := look_mem l
  obtain ⟨e, me, ee⟩ := List.mem_map.mp (show p ∈ ds.map (fun r => (rowN r, rowK r)) from mp)
  obtain ⟨y, k, rfl⟩ := hr e me
  subst ee
  have e1' : y = x := e1
  have e2' : k = v := e2
  rw [← e1', ← e2']
  exact me
theorem row_gdG {y : Str} {k : PyData} {n w d j : Nat} (ty : txtOk y n) (hn : n ≤ 100 + j) (g : Gd k j w d) : Gd (.tuple [.str y, k]) j (n + w + 2) (d + 1) := by
  have ly : y.cps.size ≤ n := ty.2
  refine ⟨?_, ?_, ?_⟩
  · show (gdB j (.str y) && (gdB j k && true)) = true
    rw [(gd_str ty (j := j) hn).g, g.g]
    rfl
  · have := g.w
    simp only [PyData.weight, PyData.weightAll]
    omega
  · have := g.k
    simp only [PyData.depth, PyData.depthAll]
    omega
/-- a kind of the book -/
structure FormAt (j : Nat) (ds : List PyData) (e : PyData) : Prop where
  lv : Lvl j e
  tx : txtB e = true
  kn : ∀ x ∈ (ms 30 e).2.2, (lookB (bkOf (.tuple ds)) x).isSome = true
theorem FormAt.knB {j m : Nat} {ds : List PyData} {e : PyData} (f : FormAt j ds e) (hm : 30 ≤ m) : knB m (bkOf (.tuple ds)) e = true := by
  obtain ⟨n, hn, ff, _⟩ := f.lv.form
  unfold Toy.knB
  rw [f.lv.kd hm, Bool.true_and, List.all_eq_true]
  intro x hx
  rw [ms_fuel ff (by omega : n ≤ m), ← ms_fuel ff (by omega : n ≤ 30)] at hx
  exact f.kn x hx
theorem row_form {j : Nat} {ds : List PyData} (b : BookL j ds) {y : Str} {k : PyData} (m : PyData.tuple [.str y, k] ∈ ds) : FormAt j ds k ∧ txtOk y (8 + 9 * j) ∧ nmB (.str y) = true := by
  obtain ⟨y1, k1, e, ty, lv, tx⟩ := b.rows _ m
  injection e with e
  injection e with e1 e
  injection e1 with e1
  injection e with e2
  subst e1 e2
  obtain ⟨y', k', e, nn, kn, _⟩ := tb_rows (b.tb 30 (by decide)) _ m
  injection e with e
  injection e with e1 e
  injection e1 with e1
  injection e with e2
  subst e1 e2
  refine ⟨⟨lv, tx, fun x hx => ?_⟩, ty, nn⟩
  unfold Toy.knB at kn
  rw [Bool.and_eq_true, List.all_eq_true] at kn
  exact kn.2 x hx
theorem look_in {j : Nat} {ds : List PyData} (b : BookL j ds) {x : Str} {v : PyData} (l : lookB (bkOf (.tuple ds)) x = some v) : PyData.tuple [.str x, v] ∈ ds :=
  look_row (fun r m => by obtain ⟨y, k, e, _⟩ := b.rows r m; exact ⟨y, k, e⟩) l
theorem form_gd {j : Nat} {ds : List PyData} {e : PyData} (b : BookL j ds) (f : FormAt j ds e) : Gd e 0 18300 24 ∧ 2 * (e.weight + 11) ≤ 52 * ((ms 30 e).2.1 + 1) := by
  obtain ⟨n, hn, ff, p⟩ := f.lv.form
  have j3 := f.lv.j3
  have nm : ∀ x ∈ (ms n e).2.2, x.length ≤ 35 := fun x hx => by
    rw [← ms_fuel ff (by omega : n ≤ 30)] at hx
    obtain ⟨v, hv⟩ := Option.isSome_iff_exists.mp (f.kn x hx)
    have := (row_form b (look_in b hv)).2.1.2
    omega
  obtain ⟨a1, a2, a3⟩ := fB_w ff f.tx nm
  rw [ms_fuel ff (by omega : n ≤ 30)]
  exact ⟨⟨a1, by omega, by omega⟩, a2⟩
theorem book_gd {j : Nat} {ds : List PyData} (b : BookL j ds) (hj : j ≤ 3) (t : TotS ds) : Gd (.tuple ds) 0 22440 26 := by
  have lf := b.few
  have rw_ := rows_w (l := ds) fun r m => by
    obtain ⟨y, k, rfl, _⟩ := b.rows r m
    obtain ⟨f, ty, _⟩ := row_form b m
    exact ⟨y, k, rfl, txt_up ty (by omega), (form_gd b f).2⟩
  have ta : sumN (fun r => (ms 30 (rowK r)).2.1) ds ≤ 700 := t
  refine gd_tuple (fun r m => ?_) (by omega) (by omega)
  obtain ⟨y, k, rfl, _⟩ := b.rows r m
  obtain ⟨f, ty, _⟩ := row_form b m
  have z := row_gdG (j := 0) ty (by omega) (form_gd b f).1
  exact ⟨z.g, by have := z.k; omega⟩
/-- a kind by a hole is one of the book by the hole -/
theorem form_by {j : Nat} {ds ds' : List PyData} {h : Ho} {e : PyData} (b : BookL j ds) (hj : j ≤ 2) (f : FormAt j ds e) (k : HoW h) (hin : ∀ y0, h = .nm y0 → (lookB (bkOf (.tuple ds)) y0).isSome = true) (a : ByH ds ds' h) (hp : (ms 30 (kmd 30 e h)).2.1 ≤ 700) : FormAt (j + 1) ds' (kmd 30 e h) := by
  have some_of : ∀ y, (lookB (bkOf (.tuple ds)) y).isSome = true → ∃ c, lookB (bkOf (.tuple ds)) y = some c := fun y z => Option.isSome_iff_exists.mp z
  have cal : ∀ y c, lookB (bkOf (.tuple ds)) y = some c → nmB (.str (calD y h)) = true := fun y c l => by
    obtain ⟨_, t, n⟩ := row_form b (look_in b l)
    exact calD_name n k (by have := t.2; omega)
  have own : ∀ z, hoOwn h z → ∃ y0 c, h = .nm y0 ∧ lookB (bkOf (.tuple ds)) y0 = some c ∧ z = calD y0 h := fun z hz => by
    cases h with
    | th => exact hz.elim
    | nm y0 =>
      obtain ⟨c, hc⟩ := some_of y0 (hin y0 rfl)
      exact ⟨y0, c, rfl, hc, hz⟩
  have knm : ∀ {n : Nat}, fB n e = true → ∀ x ∈ (ms n e).2.2, ∃ c', lookB (bkOf (.tuple ds)) x = some c' := fun {n} ff x hx => by
    obtain ⟨n', hn', f', _⟩ := f.lv.form
    have g : fB 30 e = true := fB_fuel f' (by omega)
    rw [names_fuel g ff] at hx
    exact some_of x (f.kn x hx)
  obtain ⟨n', hn', f', p'⟩ := f.lv.low hj
  refine ⟨f.lv.by hj (fun z hz => ?_) (fun {n} ff x hx => ?_) hp, ?_, fun z hz => ?_⟩
  · obtain ⟨y0, c0, _, l0, rfl⟩ := own z hz
    exact cal y0 c0 l0
  · obtain ⟨c', l'⟩ := knm ff x hx
    exact cal x c' l'
  · rw [kmd_fuel f' (by omega)]
    exact kmd_txt k f' f.tx
  · rw [kmd_fuel f' (by omega)] at hz
    rcases kmd_names2 f' (by omega) hz with o | ⟨x', hx', rfl⟩ | o
    · obtain ⟨c', l'⟩ := knm f' z o
      rw [a.old z c' l']
      rfl
    · obtain ⟨c', l'⟩ := knm f' x' hx'
      rw [a.new x' c' l']
      rfl
    · obtain ⟨y0, c0, _, l0, rfl⟩ := own z o
      rw [a.new y0 c0 l0]
      rfl
/-! ### what the program asks of books, kinds, holes -/
section
variable {K : PySem.W.Frag}
theorem bookAt_of {j : Nat} {ds : List PyData} {H : Hp} {v : V} (b : BookL j ds) (hj : j ≤ 3) (t : TotS ds) (hd : Dq K H v (.tuple ds)) : BookAt K 120 H v (.tuple ds) := by
  have g := book_gd b hj t
  exact ⟨hd, topP_of hd, gdB_txt (by decide) _ g.g, Nat.le_trans g.k (by decide), b.tb 120 (by decide)⟩
theorem kindAt_of {j : Nat} {ds : List PyData} {e : PyData} {H : Hp} {v : V} (b : BookL j ds) (f : FormAt j ds e) (hd : Dq K H v e) : KindAt K 120 H v (.tuple ds) e :=
  ⟨hd, f.tx, Nat.le_trans (form_gd b f).1.k (by decide), f.knB (by decide)⟩
theorem holeAt_of {ds : List PyData} {h : Ho} {H : Hp} {v : V} (k : HoW h) (hin : ∀ y0, h = .nm y0 → (lookB (bkOf (.tuple ds)) y0).isSome = true) (hd : Dq K H v (hoD h)) : HoleAt K 120 H v (.tuple ds) h := by
  refine ⟨hd, how_ok k, ?_, ?_⟩
  · cases h with
    | th => decide +kernel
    | nm y0 =>
      have t := txt_str (x := y0) (n := 8) ⟨(how_ok k).1, how_len k⟩ (by decide)
      show (txtB (.str "name") && (txtB (.str y0) && true)) = true
      rw [t]
      decide +kernel
  · cases h with
    | th => exact kh_thing (by omega) _
    | nm y0 => rw [kh_name (by omega) _ k.1 (by have := k.2.1; omega)]; exact hin y0 rfl
end
end Toy
set_option Elab.async false
set_option linter.all false
set_option maxRecDepth 100000
set_option maxHeartbeats 4000000
namespace Toy
open PySem L2 PyProof.Rows LamX
/-! ### all but the well and the tables stays -/
def Mn (wl : Addr) (H H' : Hp) : Prop := ∀ b o, b ≠ wl → H b = some o → (∀ ps, o ≠ .tbl ps) → H' b = some o
theorem Mn.refl {wl : Addr} (H : Hp) : Mn wl H H := fun _ _ _ h _ => h
theorem Mn.trans {wl : Addr} {H H1 H2 : Hp} (a : Mn wl H H1) (b : Mn wl H1 H2) : Mn wl H H2 := fun c o n h t => b c o n (a c o n h t) t
theorem Mn.same {wl : Addr} {H H' : Hp} (e : Same H H') : Mn wl H H' := fun b o _ h _ => e b o h
theorem Mn.but {wl : Addr} {H H' : Hp} (e : But wl H H') : Mn wl H H' := fun b o n h _ => e b o n h
theorem Mn.ext {wl : Addr} {H H' : Hp} (e : ExtN H H') : Mn wl H H' := fun b o _ h t => e b o h t
theorem Mn.tup {wl : Addr} {H H' : Hp} (e : Mn wl H H') (w : WellAt H wl) : ∀ a o xs, H a = some (.frz o (.tup xs)) → H' a = some (.frz o (.tup xs)) := fun a o xs h => e a _ (fun z => by
  obtain ⟨x, y, z', hw⟩ := w
  rw [z, hw] at h
  cases h) h (fun ps z => by cases z)
theorem Mn.well {wl : Addr} {H H' : Hp} (e : ExtN H H') (w : WellAt H wl) : WellAt H' wl := by
  obtain ⟨x, y, z, h⟩ := w
  exact ⟨x, y, z, e _ _ h (fun ps q => by cases q)⟩
theorem tabs_but {wl : Addr} {T : List (Addr × Str)} {H H' : Hp} (t : Tabs T H) (w : WellAt H wl) (e : But wl H H') : Tabs T H' := fun p mp => by
  obtain ⟨x, y, z, hw⟩ := w
  obtain ⟨ps, h1, h2, h3⟩ := t p mp
  refine ⟨ps, e _ _ (fun q => by rw [q, hw] at h1; cases h1) h1, h2, fun pos cv hc => ?_⟩
  obtain ⟨c, e1, e2⟩ := h3 pos cv hc
  exact ⟨c, e1, e _ _ (fun q => by rw [q, hw] at e2; unfold CodeO at e2; cases e2) e2⟩
/-- the tuples of a heap -/
def tupsOf (H : Hp) : Hp := fun b => match H b with
  | some (.frz o (.tup xs)) => some (.frz o (.tup xs))
  | _ => none
theorem tups_at {H : Hp} {a : Addr} {o : Obj} {xs : List V} (h : H a = some (.frz o (.tup xs))) : tupsOf H a = some (.frz o (.tup xs)) := by
  unfold tupsOf
  rw [h]
theorem tups_sub {H : Hp} : Same (tupsOf H) H := fun b u h => by
  unfold tupsOf at h
  split at h
  · rename_i e
    rw [e]
    exact h
  · cases h
theorem tups_dq {K : PySem.W.Frag} {H : Hp} {d : PyData} {v : V} (s : stB d = true) (h : Dq K H v d) : Dq K (tupsOf H) v d := Dq.ext (fun a o xs e => tups_at e) d v s h
theorem tups_stt {H : Hp} {wl : Addr} (w : WellAt H wl) : Stt wl (tupsOf H) H := ⟨tups_sub, by
  obtain ⟨x, y, z, hw⟩ := w
  unfold tupsOf
  rw [hw], w⟩
theorem list_ok {l : List PyData} (h : ∀ d ∈ l, Gd d 0 40000 30) (n : l.length ≤ 8) : (PyData.list l).showable = true ∧ (PyData.list l).shown.length ≤ sizeLine ∧ (PyData.list l).depth ≤ 60 := by
  have wl : ∀ l : List PyData, (∀ d ∈ l, Gd d 0 40000 30) → PyData.weightAll l ≤ 40001 * l.length := fun l => by
    induction l with
    | nil => intro _; simp only [PyData.weightAll]; exact Nat.zero_le _
    | cons d l ih =>
      intro h
      have a := (h d List.mem_cons_self).w
      have b := ih fun x m => h x (List.mem_cons_of_mem _ m)
      simp only [PyData.weightAll, List.length_cons]
      omega
  have g : Gd (.list l) 0 320100 31 := gd_list (fun d m => ⟨(h d m).g, by have := (h d m).k; omega⟩) (by have := wl l h; omega) (by decide)
  exact ⟨gdB_show (by decide) _ g.g, Nat.le_trans (gd_shown (by decide) g.g) (Nat.le_trans (Nat.add_le_add_right (Nat.mul_le_mul_left 35 g.w) 33) (by decide)), Nat.le_trans g.k (by decide)⟩
theorem form_st {j : Nat} {ds : List PyData} {e : PyData} (f : FormAt j ds e) : stB e = true := by
  obtain ⟨n, _, ff, _⟩ := f.lv.form
  exact fB_st _ _ ff f.tx
theorem book_st {j : Nat} {ds : List PyData} (b : BookL j ds) : stB (.tuple ds) = true := by
  have go : ∀ l : List PyData, (∀ r ∈ l, stB r = true) → stA l = true := fun l => by
    induction l with
    | nil => intro _; rfl
    | cons r l ih =>
      intro h
      show (stB r && stA l) = true
      rw [h r List.mem_cons_self, ih fun x m => h x (List.mem_cons_of_mem _ m)]
      rfl
  refine go ds fun r m => ?_
  obtain ⟨y, k, rfl, _⟩ := b.rows r m
  obtain ⟨f, ty, _⟩ := row_form b m
  show (PyData.strOk y && (stB k && true)) = true
  rw [ty.1, form_st f]
  rfl
theorem kmd_stF {j : Nat} {ds : List PyData} {e : PyData} {h : Ho} (f : FormAt j ds e) (k : HoW h) : stB (kmd 30 e h) = true := by
  obtain ⟨n, hn, ff, _⟩ := f.lv.form
  exact kmd_st 30 e h (fB_fuel ff (by omega)) f.tx (how_ok k)
/-- what a step asks -/
structure StepAt (j : Nat) (ds : List PyData) (e : PyData) (h : Ho) (ds' : List PyData) : Prop where
  b : BookL j ds
  j2 : j ≤ 2
  t : TotS ds
  f : FormAt j ds e
  k : HoW h
  hin : ∀ y0, h = .nm y0 → (lookB (bkOf (.tuple ds)) y0).isSome = true
  by' : ByH ds ds' h
  p : (ms 30 (kmd 30 e h)).2.1 ≤ 700
  l : ds'.length ≤ 80
  t' : TotS ds'
theorem sumN_mem {f : PyData → Nat} : ∀ {l : List PyData} {x : PyData}, x ∈ l → f x ≤ sumN f l
  | y :: l, x, m => by
    rw [sumN_cons]
    rcases List.mem_cons.mp m with e | m
    · rw [e]; omega
    · have := sumN_mem (f := f) m
      omega
theorem StepAt.b' {j : Nat} {ds ds' : List PyData} {e : PyData} {h : Ho} (s : StepAt j ds e h ds') : BookL (j + 1) ds' :=
  closure s.b s.j2 (fun r m => Nat.le_trans (sumN_mem (f := fun r => (ms 30 (rowK r)).2.1) m) s.t') s.l s.k s.hin s.by'
theorem StepAt.f' {j : Nat} {ds ds' : List PyData} {e : PyData} {h : Ho} (s : StepAt j ds e h ds') : FormAt (j + 1) ds' (kmd 30 e h) := form_by s.b s.j2 s.f s.k s.hin s.by' s.p
def spSt (K : PySem.W.Frag) (PT : Addr) : Sp := fun vs H Q _ => ∃ (wl : Addr) (vL vF vG : V) (j : Nat) (ds ds' : List PyData) (e : PyData) (h : Ho), vs = [.ref wl, vL, vF, vG] ∧ WellAt H wl ∧ Tabs (lamT PT) H ∧ StepAt j ds e h ds' ∧ Dq K H vL (.tuple ds) ∧ Dq K H vF e ∧ Dq K H vG (hoD h) ∧
  ∀ H', WellAt H' wl → Tabs (lamT PT) H' → Mn wl H H' → Q (.bl true) H'
section
variable {P : Program} {w : World} {K : PySem.W.Frag} {mg : Str → Option Value} {base : Heap}
end
end Toy
set_option Elab.async false
set_option linter.all false
set_option maxRecDepth 100000
set_option maxHeartbeats 4000000
namespace L2
open PySem PySem.Spec PyProof.Rows
/-! ### f(k2 = w, k1 = v), f(k3 = .., k2 = .., k1 = ..): by keywords alone, the last one first -/
structure KB2 (K : PySem.W.Frag) (fd : FuncData) (k1 k2 : Str) : Prop where
  to : ∀ (s : Shared) (a b : Value), BindsTo s fd ⟨[], [(k2, b), (k1, a)]⟩ [(k1, a), (k2, b)]
structure KB3 (K : PySem.W.Frag) (fd : FuncData) (k1 k2 k3 : Str) : Prop where
  to : ∀ (s : Shared) (a b c : Value), BindsTo s fd ⟨[], [(k3, c), (k2, b), (k1, a)]⟩ [(k1, a), (k2, b), (k3, c)]
theorem Fun.binds3 {K : PySem.W.Frag} {x qual : Str} {st : Stmt} {f : Addr} {fd : FuncData} {k1 k2 k3 : Str} (F : Fun K x qual st f fd)
    (h : ∀ (kV doc pm : Value) (an : Option Addr) (cdv ct a b c : Value), bindArgs (PySem.W.fnOf x qual (defArgs st) (defBody st) (defScope st) .none kV doc pm an cdv ct) ⟨[], [(k3, c), (k2, b), (k1, a)]⟩ = pure [(k1, a), (k2, b), (k3, c)]) : KB3 K fd k1 k2 k3 := by
  obtain ⟨oc, od, kV, doc, pm, an, cdv, ct, osl, rfl, lk, hcd⟩ := F.ex
  exact ⟨fun s a b c => BindsTo.of_eq (h kV doc pm an cdv ct a b c)⟩
theorem _root_.Toy.FunC.binds {K : PySem.W.Frag} {x qual : Str} {st : Stmt} {f c : Addr} {fd : FuncData} {ps : List Str} (F : Toy.FunC K x qual st f fd c)
    (h : ∀ (kV doc pm : Value) (an : Option Addr) (cdv ct : Value) (us : List Value), us.length = ps.length → bindArgs (PySem.W.fnOf x qual (defArgs st) (defBody st) (defScope st) .none kV doc pm an cdv ct) ⟨us, []⟩ = pure (ps.zip us)) : Binds K fd ps [] := by
  obtain ⟨oc, od, kV, doc, pm, an, ct, osl, rfl, lk, hcd⟩ := F.ex
  exact .all (h kV doc pm an (.ref c) ct)
theorem _root_.Toy.FunC.binds2 {K : PySem.W.Frag} {x qual : Str} {st : Stmt} {f c : Addr} {fd : FuncData} {k1 k2 : Str} (F : Toy.FunC K x qual st f fd c)
    (h : ∀ (kV doc pm : Value) (an : Option Addr) (cdv ct a b : Value), bindArgs (PySem.W.fnOf x qual (defArgs st) (defBody st) (defScope st) .none kV doc pm an cdv ct) ⟨[], [(k2, b), (k1, a)]⟩ = pure [(k1, a), (k2, b)]) : KB2 K fd k1 k2 := by
  obtain ⟨oc, od, kV, doc, pm, an, ct, osl, rfl, lk, hcd⟩ := F.ex
  exact ⟨fun s a b => BindsTo.of_eq (h kV doc pm an (.ref c) ct a b)⟩
def tCallK2 (sp : Sp) (tk : TA) : TE := fun σ H Q => tk σ H fun zs H2 => ∃ y x, zs = [y, x] ∧ sp [x, y] H2 Q E0
def tCallK3 (sp : Sp) (tk : TA) : TE := fun σ H Q => tk σ H fun zs H2 => ∃ z y x, zs = [z, y, x] ∧ sp [x, y, z] H2 Q E0
theorem pe_callK2 {X : Cx} {k : Nat} {f : Addr} {fd : FuncData} {k1 k2 : Str} {sp : Sp} {x : Str} {p pos : Pos} {kws : List Keyword} {tk : TA} (F : FnOk X.prog X.w X.K X.mg X.base CX0 k f fd [k1, k2] sp) (hr : Room k X.A) (hg : Gl X x) (hm : X.mg x = some (.ref f)) (hk : PySem.W.keepIn X.K (.ref f) = true) (hb : KB2 X.K fd k1 k2)
    (hkw : PK X kws tk) (hall : (backToKw pos (keywordEach kws X.env)).all (·.1.isSome) = true := by rfl) (hks : (backToKw pos (keywordEach kws X.env)).filterMap (·.1) = [k2, k1] := by rfl) (hdb : (x == ("__debug__" : Str)) = false := by decide)
    (hpl : ((backTo pos (starEach [] X.env)).any (·.1) || (backToKw pos (keywordEach kws X.env)).any (·.1.isNone)) = false := by rfl) :
    PE X (.Call (.Name x p) [] kws pos) (tCallK2 sp tk) := by
  refine ⟨fun pins s σ H Q I h => ?_⟩
  refine wpAny_Call_Name_kw (ld_glob I hg hm ?_ hdb)
  refine PySem.W.callWith_KW0 (h₀ := X.base) I.ok.mod.kin hk hall ?_ hpl
  refine thn (hkw.run pos pins s σ H _ I h) fun ws s2 ⟨zs, H2, I2, rz, y, x, ez, q2⟩ => ⟨I2.kIn, ?_⟩
  subst ez
  cases rz with
  | cons r1 rt =>
    cases rt with
    | cons r2 rt =>
      cases rt
      rename_i b1 a1 _
      rw [hks]
      refine wpAny_call (codeAny_mono (F.run X.A X.stack s2 H2 ⟨[], [(k2, b1), (k1, a1)]⟩ [a1, b1] [x, y] Q E0 hr I2.env0 (hb.to s2 a1 b1) (.cons r2 (.cons r1 .nil)) q2) fun r s' hq => ?_)
      cases r with
      | error e => exact (pass0 (X := X)) pins σ H2 s2 e s' I2 hq
      | ok fl =>
        cases fl with
        | ret u => exact I2.after hq
        | next => exact False.elim hq
        | brk => exact False.elim hq
        | cont => exact False.elim hq
theorem pe_callK3 {X : Cx} {k : Nat} {f : Addr} {fd : FuncData} {k1 k2 k3 : Str} {sp : Sp} {x : Str} {p pos : Pos} {kws : List Keyword} {tk : TA} (F : FnOk X.prog X.w X.K X.mg X.base CX0 k f fd [k1, k2, k3] sp) (hr : Room k X.A) (hg : Gl X x) (hm : X.mg x = some (.ref f)) (hk : PySem.W.keepIn X.K (.ref f) = true) (hb : KB3 X.K fd k1 k2 k3)
    (hkw : PK X kws tk) (hall : (backToKw pos (keywordEach kws X.env)).all (·.1.isSome) = true := by rfl) (hks : (backToKw pos (keywordEach kws X.env)).filterMap (·.1) = [k3, k2, k1] := by rfl) (hdb : (x == ("__debug__" : Str)) = false := by decide)
    (hpl : ((backTo pos (starEach [] X.env)).any (·.1) || (backToKw pos (keywordEach kws X.env)).any (·.1.isNone)) = false := by rfl) :
    PE X (.Call (.Name x p) [] kws pos) (tCallK3 sp tk) := by
  refine ⟨fun pins s σ H Q I h => ?_⟩
  refine wpAny_Call_Name_kw (ld_glob I hg hm ?_ hdb)
  refine PySem.W.callWith_KW0 (h₀ := X.base) I.ok.mod.kin hk hall ?_ hpl
  refine thn (hkw.run pos pins s σ H _ I h) fun ws s2 ⟨zs, H2, I2, rz, z, y, x, ez, q2⟩ => ⟨I2.kIn, ?_⟩
  subst ez
  cases rz with
  | cons r1 rt =>
    cases rt with
    | cons r2 rt =>
      cases rt with
      | cons r3 rt =>
        cases rt
        rename_i c1 b1 a1 _
        rw [hks]
        refine wpAny_call (codeAny_mono (F.run X.A X.stack s2 H2 ⟨[], [(k3, c1), (k2, b1), (k1, a1)]⟩ [a1, b1, c1] [x, y, z] Q E0 hr I2.env0 (hb.to s2 a1 b1 c1) (.cons r3 (.cons r2 (.cons r1 .nil))) q2) fun r s' hq => ?_)
        cases r with
        | error e => exact (pass0 (X := X)) pins σ H2 s2 e s' I2 hq
        | ok fl =>
          cases fl with
          | ret u => exact I2.after hq
          | next => exact False.elim hq
          | brk => exact False.elim hq
          | cont => exact False.elim hq
end L2
set_option Elab.async false
set_option linter.all false
set_option maxRecDepth 100000
set_option maxHeartbeats 8000000
namespace Toy
open PySem L2 PyProof.Rows LamX
theorem due_fB {j : Nat} {ds : List PyData} {h : Ho} {e : PyData} (b : BookL j ds) (hj : j ≤ 2) (f : FormAt j ds e) (k : HoW h) (hin : ∀ y0, h = .nm y0 → (lookB (bkOf (.tuple ds)) y0).isSome = true) : fB 30 (kmd 30 e h) = true := by
  have cal : ∀ y, (lookB (bkOf (.tuple ds)) y).isSome = true → nmB (.str (calD y h)) = true := fun y z => by
    obtain ⟨c, l⟩ := Option.isSome_iff_exists.mp z
    obtain ⟨_, t, n⟩ := row_form b (look_in b l)
    exact calD_name n k (by have := t.2; omega)
  obtain ⟨n', hn', f', p'⟩ := f.lv.low hj
  rw [kmd_fuel f' (by omega)]
  refine kmd_form2 (fun z hz => ?_) f' (by omega) (fun x hx => ?_)
  · cases h with
    | th => exact hz.elim
    | nm y0 =>
      have hz' : z = calD y0 (.nm y0) := hz
      rw [hz']
      exact cal y0 (hin y0 rfl)
  · rw [← ms_fuel f' (by omega : n' ≤ 30)] at hx
    exact cal x (f.kn x hx)
theorem rows_fB {j : Nat} {ds ds' : List PyData} {h : Ho} (b : BookL j ds) (hj : j ≤ 2) (k : HoW h) (hin : ∀ y0, h = .nm y0 → (lookB (bkOf (.tuple ds)) y0).isSome = true) (a : ByH ds ds' h) : ∀ r ∈ ds', ∃ x v, r = .tuple [.str x, v] ∧ fB 30 v = true := fun r mr => by
  obtain ⟨x, v, rfl, o | ⟨y, c, l, rfl, rfl⟩⟩ := a.rows r mr
  · obtain ⟨n, hn, f, _⟩ := (row_form b (look_in b o)).1.lv.form
    exact ⟨x, v, rfl, fB_fuel f (by omega)⟩
  · exact ⟨_, _, rfl, due_fB b hj (row_form b (look_in b l)).1 k hin⟩
theorem bookD_names {ns : List Str} {ds : List PyData} (b : BookD ns ds) : ∀ x ∈ ns, wrB x = true ∧ txtOk x 8 ∧ nmB (.str x) = true := fun x hx => by
  rw [← b.names] at hx
  obtain ⟨r, mr, rfl⟩ := List.mem_map.mp hx
  obtain ⟨y, k, rfl, hw, hy, _⟩ := b.rows r mr
  have l8 : y.length ≤ 8 := hy.2
  exact ⟨hw, hy, wr_name (y := y) hw (by omega)⟩
theorem bookD_tot {ns : List Str} {ds : List PyData} (b : BookD ns ds) : TotS ds := by
  have hl : ds.length = ns.length := by rw [← b.names, List.length_map]
  have few := b.few
  have z := sumN_le (f := fun r => (ms 30 (rowK r)).2.1) (c := 63) (l := ds) fun r mr => by
    obtain ⟨y, k, rfl, hw, hy, t, g⟩ := b.rows r mr
    have p := (kt_facts (fun x hx => (bookD_names b x hx).2.2) t (m := 30) (by decide)).2.2.1
    have e : (2 : Nat) ^ 6 = 64 := by decide
    show (ms 30 k).2.1 ≤ 63
    omega
  show sumN _ ds ≤ 700
  omega
theorem bookD_in {ns : List Str} {ds : List PyData} (b : BookD ns ds) : ∀ x ∈ ns, (lookB (bkOf (.tuple ds)) x).isSome = true := fun x hx => look_some (by rw [bk_names, b.names]; exact hx)
theorem kt_formAt {ns : List Str} {ds : List PyData} {e : PyData} (b : BookD ns ds) (t : KT (· ∈ ns) 5 e) : FormAt 0 ds e := by
  have ho : ∀ x, x ∈ ns → nmB (.str x) = true := fun x hx => (bookD_names b x hx).2.2
  have g := kt_gd (fun x hx => (bookD_names b x hx).2.1) t
  refine ⟨kt_lvl ho (t.up (by decide)), gdB_txt (by decide) _ g.g, fun x hx => bookD_in b x ?_⟩
  exact (kt_facts ho t (m := 30) (by decide)).2.2.2 x hx
theorem name_formAt {j : Nat} {ds : List PyData} {x : Str} {k : PyData} (b : BookL j ds) (hj : j ≤ 3) (m : PyData.tuple [.str x, k] ∈ ds) : FormAt j ds (.tuple [.str "name", .str x]) := by
  obtain ⟨_, tx, nn⟩ := row_form b m
  have e : 6 + 6 * j = (5 + 6 * j) + 1 := by omega
  refine ⟨⟨hj, ?_, by rw [pd_leaf]; omega, by rw [p_leaf]; omega⟩, ?_, fun z hz => ?_⟩
  · rw [e, fB_nam, nn]
    decide +kernel
  · have t := txt_str tx (by omega)
    show (txtB (.str "name") && (txtB (.str x) && true)) = true
    rw [t]
    decide +kernel
  · have e1 : (ms 30 (.tuple [.str "name", .str x])).2.2 = [x] := rfl
    rw [e1] at hz
    rw [List.mem_singleton.mp hz]
    refine look_some ?_
    rw [bk_names]
    exact List.mem_map.mpr ⟨_, m, rfl⟩
/-- what was done: a book, a kind, a hole, both by the hole -/
def Deed (d : PyData) : Prop := ∃ (j : Nat) (ds ds' : List PyData) (e : PyData) (h : Ho), d = .tuple [.tuple ds, e, hoD h, kmd 30 e h, .tuple ds'] ∧ StepAt j ds e h ds'
theorem deed_st {d : PyData} (h : Deed d) : stB d = true := by
  obtain ⟨j, ds, ds', e, h, rfl, S⟩ := h
  show (stB (.tuple ds) && (stB e && (stB (hoD h) && (stB (kmd 30 e h) && (stB (.tuple ds') && true))))) = true
  rw [book_st S.b, form_st S.f, hoD_st (how_ok S.k), form_st S.f', book_st S.b']
  rfl
theorem deeds_st {l : List PyData} (h : ∀ d ∈ l, Deed d) : stA l = true := by
  induction l with
  | nil => rfl
  | cons d l ih =>
    show (stB d && stA l) = true
    rw [deed_st (h d List.mem_cons_self), ih fun x m => h x (List.mem_cons_of_mem _ m)]
    rfl
theorem sum_ints (f : PyData → Nat) : ∀ l : List PyData, (l.map fun r => ((f r : Nat) : Int)).sum = ((sumN f l : Nat) : Int)
  | [] => rfl
  | x :: l => by
    rw [List.map_cons, List.sum_cons, sum_ints f l, sumN_cons]
    omega
theorem joinSt {S : L2.St → Hp → Prop} {N : L2.St → Hp → Prop} {Z : Prop} (h : ∀ σ H, S σ H → N σ H) (k : (∀ σ H, S σ H → N σ H) → Z) : Z := k h
abbrev rgN : List Str := ["spring", "lib", "names", "deeds", "form", "lap", "gap", "due", "more", "name", "own"]
def spRi (PT : Addr) : Sp := fun vs H Q _ => ∃ (wl : Addr), vs = [.ref wl] ∧ WellAt H wl ∧ Tabs (lamT PT) H ∧ ∀ H', WellAt H' wl → Tabs (lamT PT) H' → Mn wl H H' → Q (.bl true) H'
section
variable {P : Program} {w : World} {K : PySem.W.Frag} {mg : Str → Option Value} {base : Heap}
end
end Toy
set_option Elab.async false
set_option linter.all false
set_option maxRecDepth 100000
set_option maxHeartbeats 4000000
/-! ### the law's end where one def makes lambdas -/
namespace LamX
open PySem PySem.Spec PyProof.Rows L2
theorem law_callT {Z : Around → Prop} {P : Program} {w : World} {K : PySem.W.Frag} {mg mb : Str → Option Value} {fa a c PT : Addr} {fd : FuncData} {x : Str} {sp : Sp} {s₁ : Shared} {vs : List Value} {ns : List Int}
    (KX : K.In s₁.heap) (hns : s₁.heap.Ns mainGlobals mg) (hb : s₁.heap.Ns builtinsNs mb) (hbb : ∀ y : Str, y ≠ "__name__" → mb y = bootBuiltins y) (lim : s₁.heap.NoLimit) (hg : s₁.gens = #[])
    (hT : s₁.heap.get? PT = some { cls := .none, data := .fields #[] }) (nT : K.lookup PT = none) (C : PySem.W.CodeHd s₁.heap c PT)
    (hbm : ∃ (bm : Addr) (ob : Obj), mg "__builtins__" = some (.ref bm) ∧ bm ≠ builtinsNs ∧ s₁.heap.get? bm = some ob ∧ ob.cls = .type "module" ∧ ob.dict = some builtinsNs ∧ ob.data = .plain)
    (ha : s₁.heap.get? a = some { cls := .type "list", data := .seq vs.toArray }) (hi : IntsAre vs ns) (hl : ns.length ≤ sizeLine) (hz : Z callerA)
    (F : ∀ base : Heap, K.In base → base.Ns mainGlobals mg → TabB base mg c PT → FnZ Z P w K mg base fa fd [x] sp) (bind : ∀ (s : Shared) (u : Value), BindsTo s fd ⟨[u], []⟩ [(x, u)])
    (hsp : ∀ H : Hp, H PT = some (.tbl #[]) → SqL K H a (ns.map V.int) → sp [.ref a] H (fun v _ => v = .bl true) E0) :
    codeAny (model P w) callerA (.call (.ref fa) ⟨[.ref a], []⟩) (fun r s' => r = .ok (.ret (.bool true)) ∧ OldK s₁.heap s'.heap ∧ s'.os = s₁.os ∧ AllBare s'.gens) s₁ := by
  have rv := vals_ints hi
  have pa : PT ≠ a := fun q => by
    rw [q, ha] at hT
    cases hT
  have ap : a ≠ PT := fun q => pa q.symm
  -- the script and the table alone
  obtain ⟨H, hP, hS, hok, hA, hK, hF⟩ : ∃ H : Hp, H PT = some (.tbl #[]) ∧ SqL K H a (ns.map V.int) ∧ HOk P w H s₁.heap ∧ (∀ b, b ≠ a → b ≠ PT → H b = none) ∧ (H a ≠ none → K.lookup a = none) ∧ (H a = none ∨ ∃ o xs, H a = some (.frz o (.lst xs))) := by
    cases hk : K.lookup a with
    | some o =>
      have e := (KX a o hk).symm.trans ha
      cases e
      refine ⟨upd (fun _ => none) PT (.tbl #[]), upd_same, .inr ⟨_, vs.toArray, _, hk, rfl, rfl, rfl, by rw [List.size_toArray, hi.length]; exact hl, by simpa using rv⟩, fun b u z => ?_, fun b _ n => upd_ne n, fun z => absurd (upd_ne ap) z, .inl (upd_ne ap)⟩
      by_cases q : b = PT
      · subst q
        rw [upd_same] at z
        cases z
        exact hT
      · rw [upd_ne q] at z
        cases z
    | none =>
      refine ⟨upd (upd (fun _ => none) PT (.tbl #[])) a (.frz { cls := .type "list", data := .seq vs.toArray } (.lst (ns.map V.int))), by rw [upd_ne pa, upd_same], .inl (.inr ⟨_, upd_same⟩), fun b u z => ?_, fun b n1 n2 => by rw [upd_ne n1, upd_ne n2], fun _ => rfl, .inr ⟨_, _, upd_same⟩⟩
      by_cases q : b = a
      · subst q
        rw [upd_same] at z
        cases z
        exact ⟨ha, by rw [List.length_map]; exact hl, vs, _, rv, ha⟩
      · rw [upd_ne q] at z
        by_cases q2 : b = PT
        · subst q2
          rw [upd_same] at z
          cases z
          exact hT
        · rw [upd_ne q2] at z
          cases z
  have noList : ∀ {b : Addr} {o : Obj}, s₁.heap.get? b = some o → (∀ its n, o.data ≠ .seq its n) → b ≠ a := fun {b o} e n q => by
    rw [q, ha] at e
    cases e
    exact n _ _ rfl
  have noTab : ∀ {b : Addr} {o : Obj}, s₁.heap.get? b = some o → o.data ≠ .fields #[] → b ≠ PT := fun {b o} e n q => by
    rw [q, hT] at e
    cases e
    exact n rfl
  have there : ∀ {b : Addr} {o : Obj}, s₁.heap.get? b = some o → (∀ its n, o.data ≠ .seq its n) → o.data ≠ .fields #[] → (hidT s₁.heap H).get? b = some o := fun e n1 n2 => hidT_get e (hA _ (noList e n1) (noTab e n2))
  have space : ∀ {b : Addr} {m : Str → Option Value}, s₁.heap.Ns b m → (hidT s₁.heap H).Ns b m := fun {b m} ⟨o, es, ep, e, d, r⟩ => ⟨o, es, ep, there e (fun its n z => by rw [d] at z; cases z) (fun z => by rw [d] at z; cases z), d, r⟩
  have kb : K.In (hidT s₁.heap H) := fun b o e => hidT_get (KX b o e) (by
    by_cases q : b = a
    · subst q
      cases z : H b with
      | none => rfl
      | some u =>
        rw [hK (by rw [z]; exact fun y => nomatch y)] at e
        cases e
    · by_cases q2 : b = PT
      · subst q2
        rw [nT] at e
        cases e
      · exact hA b q q2)
  have TB : TabB (hidT s₁.heap H) mg c PT := by
    refine ⟨?_, ?_, fun z => ?_⟩
    · obtain ⟨o, us, file, tf, flags, tg, inF, text, tt, e1, r1, r2, r3, r⟩ := C
      refine ⟨o, us, file, tf, flags, tg, inF, text, tt, there e1 (fun its n z => by rw [r2] at z; cases z) (fun z => ?_), r1, r2, r3, r⟩
      rw [r2] at z
      cases z
      cases r3
    · obtain ⟨bm, ob, b1, b2, b3, b4, b5, b6⟩ := hbm
      refine ⟨bm, ob, b1, b2, fun q => ?_, noTab b3 (fun z => by rw [b6] at z; cases z), there b3 (fun its n z => by rw [b6] at z; cases z) (fun z => by rw [b6] at z; cases z), b4, b5, b6⟩
      obtain ⟨o, es, ep, e, d, _⟩ := hns
      rw [q, e] at b3
      cases b3
      rw [d] at b6
      cases b6
    · obtain ⟨o, es, ep, e, d, _⟩ := hns
      rw [z, hT] at e
      cases e
      cases d
  have md : L2.Mod K mg (hidT s₁.heap H) := ⟨kb, space hns, ⟨mb, space hb, hbb⟩, let ⟨mc, h1, h2⟩ := lim; ⟨mc, space h1, h2⟩⟩
  have e0 : Env0 P w K mg (hidT s₁.heap H) callerA [] s₁ H := ⟨rfl, md, fun _ _ e => of_hidT e, Nat.le_of_eq (hidT_size _ _), trivial, (fun _ q => nomatch q), hok, .of_eq hg⟩
  refine codeAny_mono ((F _ kb (space hns) TB).run callerA [] s₁ H ⟨[.ref a], []⟩ [.ref a] [.ref a] _ hz e0 (bind s₁ (.ref a)) (.cons rfl .nil) (hsp H hP hS)) fun r s' h => ?_
  match r, h with
  | .ok (.ret u), ⟨v, H', os, bare, un, hok', r', q⟩ =>
    have q' : v = .bl true := q
    subst q'
    obtain rfl : u = Value.bool true := r'
    have stay : ∀ b o, b ≠ PT → s₁.heap.get? b = some o → s'.heap.get? b = some o := fun b o n e => by
      by_cases qa : b = a
      · subst qa
        rcases hF with z | ⟨ob, its, z⟩
        · exact un.keep b o e z (fun y => nomatch y) (fun y => nomatch y)
        · have e1 := (hok b _ z).1
          have e2 := (hok' b _ (un.frzs b ob _ z)).1
          rw [e] at e1
          cases e1
          exact e2
      · exact un.keep b o e (hA b qa n) (fun y => nomatch y) (fun y => nomatch y)
    obtain ⟨more, z⟩ := un.tbls PT #[] hP
    have grown : s'.heap.get? PT = some { cls := .none, data := .fields (#[] ++ more) } := hok' PT _ z
    refine ⟨rfl, ⟨fun b o e => ?_, fun b o e => ?_⟩, os, bare⟩
    · by_cases n : b = PT
      · subst n
        rw [hT] at e
        cases e
        exact .inr (.inl ⟨(C.tab hT).isCodeTable, rfl, #[], more, rfl, grown⟩)
      · exact .inl (stay b o n e)
    · by_cases n : b = PT
      · rw [n]
        exact ⟨_, grown⟩
      · exact ⟨o, stay b o n e⟩
end LamX
set_option Elab.async false
set_option linter.all false
set_option maxRecDepth 100000
set_option maxHeartbeats 2000000
namespace Toy
open PySem L2 PyProof.Rows
abbrev sOfL : Stmt := top 69
/-! ### the law's dict of a book -/
theorem putB_new {l : List (Str × PyData)} {x : Str} {v : PyData} (h : ∀ p ∈ l, p.1 ≠ x) : putB l x v = l ++ [(x, v)] := by
  unfold putB
  rw [if_neg]
  intro z
  obtain ⟨p, mp, e⟩ := List.any_eq_true.mp z
  exact h p mp (of_decide_eq_true e)
def spOfL (K : PySem.W.Frag) : Sp := fun vs H Q _ => ∃ (v : V) (ds : List PyData) (j : Nat), vs = [v] ∧ Dq K H v (.tuple ds) ∧ BookL j ds ∧
  ∀ (t : Addr) (H' : Hp) (kvs : List (Key × V)), Same H H' → H t = none → H' t = some (.dK kvs) → Paired (TabR K H) kvs (bkOf (.tuple ds)) → Q (.ref t) H'
section
variable {P : Program} {w : World} {K : PySem.W.Frag} {mg : Str → Option Value} {base : Heap}
theorem scOfL : FnScope ["lib", "table", "name", "form"] ["lib"] (defScope sOfL) := ⟨rfl, rfl, rfl, by decide +kernel, rfl, by decide +kernel, by decide +kernel⟩
theorem ok_ofl {f : Addr} {fd : FuncData} (F : Fun K "_law_of" "_law_of" sOfL f fd) : FnOk P w K mg base CX0 1 f fd ["lib"] (spOfL K) := by
  refine F.ok scOfL (fun vs H Q E h => ?_) (fun cdv A outer s H vs Q E hr h => ?_)
  · obtain ⟨v, ds, j, rfl, _⟩ := h
    rfl
  obtain ⟨v, ds, j, rfl, hd, b, q⟩ := h
  have hu1 := Nat.lt_of_le_of_lt (Nat.add_le_add_left (by decide : 1 ≤ 64) _) hr.units
  refine ⟨_, (pss_cons (ps_set (i := 1) scOfL.nd rfl (.inl rfl) pe_dnewK)
    (pss_cons (ps_for PassesOwn.never rfl (pi_tup (pv 0)) (pg_tup rfl (pgs_cons (pg_name (i := 2) scOfL.nd rfl (.inl rfl)) (pgs_cons (pg_name (i := 3) scOfL.nd rfl (.inl rfl)) pgs_nil))) (pss_one (ps_dput hu1 (pv 1) (pv 2) (pv 3) rfl)))
    (pss_one (ps_ret (pv 1))))), ?_⟩
  obtain ⟨a, xs, rfl, hx, hA⟩ := dq_tuple hd
  have hl := hA.len
  have few := b.few
  have hbl : (bkOf (.tuple ds)).length = ds.length := List.length_map ..
  have dist := bk_dist b
  have zs : ∀ {k : Nat}, k ≤ 200 → k < sizeLine := fun h => Nat.lt_of_le_of_lt h (by decide)
  refine fun t ht => ?_
  have s1 := same_new ht (.dK [])
  refine ⟨_, rfl, a, rfl, ⟨_, s1.seqT hx⟩, ?_⟩
  refine for_it (walk_tup (xs := xs)) (fun i σ H' => ∃ kvs c2 c3, σ = [some (.ref a), some (.ref t), c2, c3] ∧ Same H H' ∧ H' t = some (.dK kvs) ∧ Paired (TabR K H) kvs ((bkOf (.tuple ds)).take i) ∧ kvs.length ≤ i) ⟨[], none, none, rfl, s1, upd_same, .nil, Nat.le_refl _⟩ (fun i σ H' _ ⟨_, _, _, _, z, _⟩ => z.seqT hx) ?_ ?_
  · rintro i y0 σ H5' H5 hi ⟨kvs, c2, c3, rfl, s5, t5, tp, lk⟩ ⟨rfl, hy⟩
    obtain ⟨e, he, hde⟩ := dqAll_at _ _ _ hA hy
    have me := List.mem_of_getElem? he
    obtain ⟨y, k, rfl, _⟩ := b.rows e me
    have hb := bk_get he
    obtain ⟨ad, ws, rfl, hw, hB⟩ := dq_tuple hde
    obtain ⟨x0, rs, rfl, q0, hB⟩ := dqAll_cons hB
    obtain ⟨x1, rs, rfl, q1, hB⟩ := dqAll_cons hB
    obtain rfl := dqAll_nil hB
    cases q0
    refine ⟨ad, _, rfl, s5.seqT hw, rfl, _, _, rfl, _, _, rfl, rfl, ?_⟩
    refine ⟨_, rfl, _, rfl, _, rfl, t, _, rfl, DPut.k (k := .inr y) t5 (zs (by omega)), ?_⟩
    have tp' := paired_put (x := y) tp q1
    have nw : ∀ p ∈ (bkOf (.tuple ds)).take i, p.1 ≠ y := fun p mp z => by
      obtain ⟨n, hn⟩ := List.getElem?_of_mem mp
      rw [List.getElem?_take] at hn
      by_cases q : n < i
      · rw [if_pos q] at hn
        obtain ⟨l1, e1⟩ := List.getElem?_eq_some_iff.mp hn
        obtain ⟨l2, e2⟩ := List.getElem?_eq_some_iff.mp hb
        have := List.pairwise_iff_getElem.mp dist n i l1 l2 q
        rw [e1, e2] at this
        exact this z
      · rw [if_neg q] at hn
        cases hn
    rw [putB_new nw] at tp'
    refine ⟨_, _, _, rfl, fun x o z => by rw [upd_ne (ne_of_none z ht)]; exact s5 _ _ z, upd_same, ?_, ?_⟩
    · rw [List.take_add_one, hb]
      exact tp'
    · have := length_putK kvs (.inr y) x1
      omega
  · rintro σ H5 ⟨kvs, c2, c3, rfl, s5, t5, tp, _⟩
    rw [hl, ← hbl, List.take_length] at tp
    exact ⟨_, rfl, q t _ kvs s5 ht t5 tp⟩
end
end Toy
set_option Elab.async false
set_option linter.all false
set_option maxRecDepth 100000
set_option maxHeartbeats 2000000
namespace Toy
open PySem L2 PyProof.Rows
abbrev sWt : Stmt := top 74
/-! ### the least number of parts of a value -/
def mnI (i j : Int) : Int := if j < i then j else i
def lookN (hw : List (Str × Int)) (x : Str) : Option Int := (hw.find? fun p => decide (p.1 = x)).map (·.2)
def HvR (kv : Key × V) (p : Str × Int) : Prop := kv.1 = .inr p.1 ∧ kv.2 = .int p.2
theorem hv_look {x : Str} : ∀ {kvs : List (Key × V)} {hw : List (Str × Int)}, Paired HvR kvs hw → valV kvs (.inr x) = (lookN hw x).map V.int
  | _, _, .nil => rfl
  | _, _, .cons (a := kv) (b := p) r t => by
    obtain ⟨e, D⟩ := r
    unfold valV lookN
    rw [List.find?_cons, List.find?_cons]
    by_cases z : p.1 = x
    · have z1 : decide (kv.1 = .inr x) = true := decide_eq_true (by rw [e, z])
      rw [z1, decide_eq_true z]
      show some kv.2 = _
      rw [D]
      rfl
    · have z1 : decide (kv.1 = .inr x) = false := decide_eq_false (fun q => z (by rw [e] at q; injection q))
      rw [z1, decide_eq_false z]
      exact hv_look t
def wt (hw : List (Str × Int)) : Nat → PyData → Int
  | n + 1, .tuple [.str w, a, b] => mnI (10 ^ 9) (1 + (if wE w = true then mnI (wt hw n a) (wt hw n b) else wt hw n a + wt hw n b))
  | _, .tuple [.str w, .str x] => (lookN hw x).getD 0
  | _, .tuple [.str w] => if decide (V.str w = V.str "none") = true then 10 ^ 9 else 1
  | _, _ => 0
def spWt (K : PySem.W.Frag) (n : Nat) : Sp := fun vs H Q _ => ∃ (t : Addr) (v : V) (kvs : List (Key × V)) (hw : List (Str × Int)) (d : PyData), vs = [.ref t, v] ∧ H t = some (.dK kvs) ∧ Paired HvR kvs hw ∧ Dq K H v d ∧ fB n d = true ∧ (∀ x ∈ (ms n d).2.2, (lookN hw x).isSome = true) ∧ ∀ H', Same H H' → Q (.int (wt hw n d)) H'
section
variable {P : Program} {w : World} {K : PySem.W.Frag} {mg : Str → Option Value} {base : Heap}
theorem scWt : FnScope ["heavy", "form", "word", "lead", "last"] ["heavy", "form"] (defScope sWt) := ⟨rfl, rfl, rfl, by decide +kernel, rfl, by decide +kernel, by decide +kernel⟩
theorem ok_weight {f : Addr} {fd : FuncData} {n k : Nat} (F : Fun K "_law_weight" "_law_weight" sWt f fd) (MI : mg "min" = none) (R : Gv P w K mg base k "_law_weight" f fd ["heavy", "form"] (spWt K n)) : FnOk P w K mg base CX0 (k + 1) f fd ["heavy", "form"] (spWt K (n + 1)) := by
  refine F.ok scWt (fun vs H Q E h => ?_) (fun cdv A outer s H vs Q E hr h => ?_)
  · obtain ⟨t, v, kvs, hw, d, rfl, _⟩ := h
    rfl
  obtain ⟨t, v, kvs, hw, d, rfl, ht, hp, hv, fm, hn, q⟩ := h
  have hu1 := Nat.lt_of_le_of_lt (Nat.add_le_add_left (by decide : 1 ≤ 64) _) hr.units
  refine ⟨_, (pss_cons (ps_set (i := 2) scWt.nd rfl (.inl rfl) (pe_ix ix_tup (pv 1) pe_int (fun _ _ => rfl)))
    (pss_cons (ps_if (pt_cmpR op_in_seq (pv 2) (pe_tup (pa_cons pe_str (pa_cons pe_str (pa_cons pe_str pa_nil)))) (by rfl)) (pss_one (ps_ret (pe_ifExp (pt_cmpR op_eq (pv 2) pe_str (nomark _)) (pe_op op_pow pe_int pe_int) pe_int))) pss_nil)
    (pss_cons (ps_if (pt_cmpR op_eq (pv 2) pe_str (nomark _)) (pss_one (ps_ret (pe_dget hu1 (pv 0) (pe_ix ix_tup (pv 1) pe_int (fun _ _ => rfl)) (fun _ _ => rfl)))) pss_nil)
    (pss_cons (ps_par (i := 3) (j := 4) rfl scWt.nd rfl rfl (by decide) rfl rfl (pa_cons (pe_call R.ok hr rfl R.m R.k R.b .nil pass0 (pa_cons (pv 0) (pa_cons (pe_ix ix_tup (pv 1) pe_int (fun _ _ => rfl)) pa_nil))) (pa_cons (pe_call R.ok hr rfl R.m R.k R.b .nil pass0 (pa_cons (pv 0) (pa_cons (pe_ix ix_tup (pv 1) pe_int (fun _ _ => rfl)) pa_nil))) pa_nil)) (by rfl))
    (pss_one (ps_ret (pe_callB (call_min2 rfl) rfl MI (by decide +kernel) (pa_cons (pe_op op_pow pe_int pe_int) (pa_cons (pe_op op_add pe_int (pe_ifExp (pt_cmpR op_eq (pv 2) pe_str (nomark _)) (pe_op op_add (pv 3) (pv 4)) (pe_callB (call_min2 rfl) rfl MI (by decide +kernel) (pa_cons (pv 3) (pa_cons (pv 4) pa_nil))))) pa_nil))))))))), ?_⟩
  have z3 : ∀ {k : Nat}, k ≤ 20 → k ≤ sizeLine := fun h => Nat.le_trans h (by decide)
  rcases fB_cases fm with ⟨w, rfl, hw3⟩ | ⟨w, x, rfl, hw1, _⟩ | ⟨m, w, a, b, en, rfl, hw2, ha, hb⟩
  · obtain ⟨ad, xs, rfl, hx, hA⟩ := dq_tuple hv
    obtain ⟨x0, rs, rfl, g0, hA⟩ := dqAll_cons hA
    cases g0
    refine ⟨_, rfl, ad, _, 0, _, rfl, rfl, hx, atI_nat (j := 0) rfl, ?_⟩
    refine ⟨_, rfl, z3 (by show 3 ≤ 20; decide), fun t0 h0 => ?_⟩
    have s0 := same_new h0 (.tup (lTun.map V.str))
    have yes : inV (V.str w) (lTun.map V.str) = true := by rcases w_three hw3 with rfl | rfl | rfl <;> decide +kernel
    refine ⟨t0, _, rfl, .inr (SqT.of upd_same), rfl, flat_strs lTun, _, rfl, ?_⟩
    show if inV (V.str w) (lTun.map V.str) = true then _ else _
    rw [yes]
    have z := q _ s0
    have e : wt hw (n + 1) (.tuple [.str w]) = if decide (V.str w = V.str "none") = true then 10 ^ 9 else 1 := rfl
    rw [e] at z
    refine iteT ⟨_, rfl, rfl, _, rfl, ?_⟩
    refine ite2 (fun g => ?_) (fun g => ?_)
    · rw [if_pos g] at z
      exact ⟨_, _, rfl, rfl, ⟨by decide, by decide, by decide⟩, z⟩
    · rw [if_neg g] at z
      exact z
  · have hw' := w_one hw1
    injection hw' with hw'
    subst hw'
    obtain ⟨ad, xs, rfl, hx, hA⟩ := dq_tuple hv
    obtain ⟨x0, rs, rfl, g0, hA⟩ := dqAll_cons hA
    obtain ⟨x1, rs, rfl, g1, hA⟩ := dqAll_cons hA
    cases g0
    cases g1
    refine ⟨_, rfl, ad, _, 0, _, rfl, rfl, hx, atI_nat (j := 0) rfl, ?_⟩
    refine ⟨_, rfl, z3 (by show 3 ≤ 20; decide), fun t0 h0 => ?_⟩
    have s0 := same_new h0 (.tup (lTun.map V.str))
    have no : inV (V.str "name") (lTun.map V.str) = false := by decide +kernel
    refine ⟨t0, _, rfl, .inr (SqT.of upd_same), rfl, flat_strs lTun, _, rfl, ?_⟩
    show if inV (V.str "name") (lTun.map V.str) = true then _ else _
    rw [no]
    refine iteF ⟨_, rfl, rfl, _, rfl, ?_⟩
    obtain ⟨nx, hnx⟩ := Option.isSome_iff_exists.mp (hn x (show x ∈ [x] from List.mem_singleton.mpr rfl))
    have gk := DGet.k (k := .inr x) (s0 _ _ ht)
    rw [hv_look hp, hnx] at gk
    refine iteT ⟨_, rfl, _, rfl, ad, _, 1, _, rfl, rfl, s0.seqT hx, atI_nat (j := 1) rfl, t, _, rfl, gk, ?_⟩
    have z := q _ s0
    have e : wt hw (n + 1) (.tuple [.str "name", .str x]) = (lookN hw x).getD 0 := rfl
    rw [e, hnx] at z
    exact z
  · have en' : n = m := by omega
    subst en'
    obtain ⟨ad, xs, rfl, hx, hA⟩ := dq_tuple hv
    obtain ⟨x0, rs, rfl, g0, hA⟩ := dqAll_cons hA
    obtain ⟨x1, rs, rfl, g1, hA⟩ := dqAll_cons hA
    obtain ⟨x2, rs, rfl, g2, hA⟩ := dqAll_cons hA
    cases g0
    rw [ms_row] at hn
    have no : inV (V.str w) (lTun.map V.str) = false := by rcases w_two hw2 with z | z <;> rw [z] <;> decide +kernel
    have no1 : decide (V.str w = V.str "name") = false := by rcases w_two hw2 with z | z <;> rw [z] <;> decide +kernel
    refine ⟨_, rfl, ad, _, 0, _, rfl, rfl, hx, atI_nat (j := 0) rfl, ?_⟩
    refine ⟨_, rfl, z3 (by show 3 ≤ 20; decide), fun t0 h0 => ?_⟩
    have s0 := same_new h0 (.tup (lTun.map V.str))
    refine ⟨t0, _, rfl, .inr (SqT.of upd_same), rfl, flat_strs lTun, _, rfl, ?_⟩
    show if inV (V.str w) (lTun.map V.str) = true then _ else _
    rw [no]
    refine iteF ⟨_, rfl, rfl, _, rfl, ?_⟩
    rw [no1]
    refine iteF ⟨_, rfl, _, rfl, ad, _, 1, _, rfl, rfl, s0.seqT hx, atI_nat (j := 1) rfl, t, x1, kvs, hw, a, rfl, s0 _ _ ht, hp, Dq.mono s0 _ _ g1, ha, (fun x m => hn x (List.mem_append.mpr (.inl m))), fun H1 s1 => ?_⟩
    have s01 := s0.trans s1
    refine ⟨_, rfl, _, rfl, ad, _, 2, _, rfl, rfl, s01.seqT hx, atI_nat (j := 2) rfl, t, x2, kvs, hw, b, rfl, s01 _ _ ht, hp, Dq.mono s01 _ _ g2, hb, (fun x m => hn x (List.mem_append.mpr (.inr m))), fun H2 s2 => ?_⟩
    have z := q _ (s01.trans s2)
    have e : wt hw (n + 1) (.tuple [.str w, a, b]) = mnI (10 ^ 9) (1 + (if wE w = true then mnI (wt hw n a) (wt hw n b) else wt hw n a + wt hw n b)) := rfl
    rw [e] at z
    refine ⟨_, _, rfl, ?_⟩
    refine ⟨_, _, rfl, rfl, ⟨by decide, by decide, by decide⟩, _, rfl, rfl, _, rfl, ?_⟩
    rcases w_two hw2 with y | y
    · injection y with y
      subst y
      rw [show wE "pair" = false by decide +kernel, if_neg Bool.false_ne_true] at z
      refine iteT ⟨_, rfl, _, rfl, _, _, rfl, rfl, _, _, rfl, rfl, _, _, rfl, ?_⟩
      exact z
    · injection y with y
      subst y
      rw [show wE "either" = true by decide +kernel, if_pos rfl] at z
      refine iteF ⟨_, rfl, _, rfl, _, _, rfl, _, _, rfl, rfl, _, _, rfl, ?_⟩
      exact z
end
end Toy
set_option Elab.async false
set_option linter.all false
set_option maxRecDepth 100000
set_option maxHeartbeats 4000000
namespace Lrow
open PySem PySem.Spec PyProof.Rows L2
theorem vals_of : ∀ {kvs : List (Key × V)} {vs : List (Key × Value)}, KV kvs vs → Vals (kvs.map (·.2)) (vs.map (·.2))
  | _, _, .nil => .nil
  | _, _, .cons h t => .cons h.2 (vals_of t)
/-- list(d.values()) -/
def tListVals (te : TE) : TE := fun σ H Q => te σ H fun x H1 => ∃ (d : Addr) (kvs : List (Key × V)), x = .ref d ∧ H1 d = some (.dK kvs) ∧
  ∀ p : Addr, H1 p = none → Q (.ref p) (upd H1 p (.lst (kvs.map (·.2))))
section
variable {X : Cx} {e : Expr} {te : TE} {p apos cpos pos : Pos}
theorem pe_listVals (hc : X.calm = true) (he : PE X e te) (hg : Gl X "list") (hm : X.mg "list" = none)
    (hbase : attributeBase e "values" X.env (eval e X.env) = eval e X.env := by rfl) (hline : (apos.endLine == cpos.line) = true := by rfl)
    (hs : starEach [.Call (.Attribute e "values" apos) [] [] cpos] X.env = (false, eval (.Call (.Attribute e "values" apos) [] [] cpos) X.env) :: starEach [] X.env := by rfl) :
    PE X (.Call (.Name "list" p) [.Call (.Attribute e "values" apos) [] [] cpos] [] pos) (tListVals te) := by
  refine ⟨fun pins s σ H Q I hq => ?_⟩
  have hv : bootBuiltins (Str.ofString "list") = some (.type "list") := by decide +kernel
  refine wpAny_Call_Name_kw (ld_blt I hg hm hv ?_)
  refine PyProof.Rows.callWith_type1 ?_ hs rfl
  rw [hs]
  show wpAny _ _ (spliced ((false, eval (.Call (.Attribute e "values" apos) [] [] cpos) X.env) :: backTo pos (starEach [] X.env))) _ _ s
  refine Calls.spliced_cons ?_
  refine wpAny_Call_method (T := "dict") (id := "dict.values") hbase rfl hline F.plainAttrs_dict F.slot_dict_values F.type_dict_values (thn (he.run pins s σ H _ I hq) fun u s1 ⟨x, H1, I1, rx, d, kvs, ex, hd, q⟩ => ?_)
  subst ex
  obtain rfl : u = Value.ref d := rx
  obtain ⟨hz, hs0, vs, kv, hdo⟩ := I1.hok d _ hd
  obtain ⟨ep, hat⟩ := hdo.dictAt
  have lk : kvs.length = vs.length := Paired.length kv
  have I2 : Inv X pins σ H1 { s1 with heap := s1.heap.push { cls := .type "dict_values", data := .fields #[.ref d] } } := I1.kept (t' := s1.toks) fun b ob q => Heap.get?_push_of_some _ q
  refine ⟨hdo.typeIs, hdo.mapOf.noDict, ?_⟩
  show wpAny _ _ (callWith cpos (.builtin "dict.values") [.ref d] [] []) _ X.xe s1
  refine method_meetsIn F.slot_dict_values F.entry_dict_values rfl (PySem.evalArgs_none ⟨rfl, hdo.typeIs, F.args_dict_values_1 _, _, meets_dict_values (mixKind X.prog X.w) d hs0, ⟨vs, hdo⟩, ?_⟩)
  refine Calls.spliced_nil ?_
  have lo : s1.heap.objs.size ≤ (s1.heap.push { cls := .type "dict_values", data := .fields #[.ref d] }).objs.size := Nat.le_of_lt (Heap.lt_size (Heap.get?_push_size _ rfl))
  refine PySem.W.kdl_call (PySem.W.kdl_values (knd := mixKind X.prog X.w) (kvs := vs) (ep := ep) (d := d)) (I1.ok.hd hc) ⟨⟨_, Heap.get?_push_size _ rfl, rfl, rfl⟩, hat.push _⟩ (by omega) fun h' tk acc c hk hS hacc => ?_
  have ev : acc.toList = vs.map (·.2) := PySem.W.kdl_vals_eq acc.toList (by rw [Array.length_toList]; exact hacc.1) fun j v e => hacc.2 j v (by rw [← Array.getElem?_toList]; exact e)
  refine ⟨.ref _, _, I2.laid (a := (s1.heap.push { cls := .type "dict_values", data := .fields #[.ref d] }).objs.size) (o := .lst (kvs.map (·.2))) (t' := tk) hk (Nat.le_refl _) ⟨by rw [List.length_map]; exact hz, acc.toList, c, by rw [ev]; exact vals_of kv, by rw [Array.toArray_toList]; exact hS⟩, rfl, q _ (I2.hok.fresh (Nat.le_refl _))⟩
end
end Lrow
set_option Elab.async false
set_option linter.all false
set_option maxRecDepth 100000
set_option maxHeartbeats 2000000
namespace Toy
open PySem L2 PyProof.Rows
/-! ### weights that only fall -/
def putI (l : List (Str × Int)) (x : Str) (v : Int) : List (Str × Int) := if (l.any fun p => decide (p.1 = x)) = true then l.map (fun p => if p.1 = x then (p.1, v) else p) else l ++ [(x, v)]
theorem hv_any {x : Str} : ∀ {kvs : List (Key × V)} {l : List (Str × Int)}, Paired HvR kvs l → (kvs.any fun kv => decide (kv.1 = Sum.inr x)) = l.any fun p => decide (p.1 = x)
  | _, _, .nil => rfl
  | _, _, .cons (a := kv) (b := p) r t => by
    rw [List.any_cons, List.any_cons, hv_any t]
    congr 1
    rw [r.1]
    by_cases e : p.1 = x
    · rw [decide_eq_true e, decide_eq_true (by rw [e])]
    · rw [decide_eq_false e, decide_eq_false (fun z => e (by injection z))]
theorem hv_map {x : Str} {v : Int} : ∀ {kvs : List (Key × V)} {l : List (Str × Int)}, Paired HvR kvs l →
    Paired HvR (kvs.map fun kv => if kv.1 = Sum.inr x then (kv.1, .int v) else kv) (l.map fun p => if p.1 = x then (p.1, v) else p)
  | _, _, .nil => .nil
  | _, _, .cons (a := kv) (b := p) r t => by
    refine .cons ?_ (hv_map t)
    show HvR (if kv.1 = Sum.inr x then (kv.1, .int v) else kv) (if p.1 = x then (p.1, v) else p)
    by_cases e : p.1 = x
    · rw [if_pos e, if_pos (by rw [r.1, e])]
      exact ⟨r.1, rfl⟩
    · rw [if_neg e, if_neg (fun z => e (by rw [r.1] at z; injection z))]
      exact r
theorem hv_put {kvs : List (Key × V)} {l : List (Str × Int)} {x : Str} {v : Int} (t : Paired HvR kvs l) : Paired HvR (putK kvs (.inr x) (.int v)) (putI l x v) := by
  unfold putK putI
  rw [hv_any t]
  cases l.any fun p => decide (p.1 = x) with
  | true =>
    rw [if_pos rfl, if_pos rfl]
    exact hv_map t
  | false =>
    rw [if_neg Bool.false_ne_true, if_neg Bool.false_ne_true]
    exact paired_snoc ⟨rfl, rfl⟩ t
theorem lookN_cons (p : Str × Int) (l : List (Str × Int)) (z : Str) : lookN (p :: l) z = if p.1 = z then some p.2 else lookN l z := by
  unfold lookN
  rw [List.find?_cons]
  by_cases e : p.1 = z
  · rw [decide_eq_true e, if_pos e]
    rfl
  · rw [decide_eq_false e, if_neg e]
theorem lookN_map {x z : Str} {v : Int} : ∀ {l : List (Str × Int)}, lookN (l.map fun p => if p.1 = x then (p.1, v) else p) z = if x = z then (if (l.any fun p => decide (p.1 = x)) = true then some v else none) else lookN l z
  | [] => by
    show none = _
    split <;> rfl
  | p :: l => by
    rw [List.map_cons, lookN_cons, lookN_map, lookN_cons, List.any_cons]
    by_cases e : p.1 = x
    · rw [if_pos e, decide_eq_true e, Bool.true_or, if_pos rfl]
      show (if p.1 = z then some v else _) = _
      by_cases g : x = z
      · rw [if_pos (e.trans g), if_pos g]
      · rw [if_neg (fun q => g (e.symm.trans q)), if_neg g, if_neg g, if_neg (fun q => g (e.symm.trans q))]
    · rw [if_neg e, decide_eq_false e, Bool.false_or]
      by_cases g : x = z
      · rw [if_pos g, if_pos g, if_neg (fun q => e (q.trans g.symm))]
      · rw [if_neg g, if_neg g]
theorem lookN_app {x z : Str} {v : Int} : ∀ {l : List (Str × Int)}, (l.any fun p => decide (p.1 = x)) = false → lookN (l ++ [(x, v)]) z = if x = z then some v else lookN l z
  | [], _ => by
    show lookN [(x, v)] z = _
    rw [lookN_cons]
  | p :: l, h => by
    rw [List.any_cons, Bool.or_eq_false_iff] at h
    rw [List.cons_append, lookN_cons, lookN_app h.2, lookN_cons]
    have e := of_decide_eq_false h.1
    by_cases g : x = z
    · rw [if_pos g, if_pos g, if_neg (fun q => e (q.trans g.symm))]
    · rw [if_neg g, if_neg g]
theorem lookN_put {l : List (Str × Int)} {x z : Str} {v : Int} : lookN (putI l x v) z = if x = z then some v else lookN l z := by
  unfold putI
  cases h : l.any fun p => decide (p.1 = x) with
  | true => rw [if_pos rfl, lookN_map, h, if_pos rfl]
  | false => rw [if_neg Bool.false_ne_true, lookN_app h]
theorem mnI_le {i j : Int} : mnI i j ≤ i ∧ mnI i j ≤ j := by
  unfold mnI
  split <;> omega
theorem mnI_mono {i j i' j' : Int} (h : i ≤ i') (g : j ≤ j') : mnI i j ≤ mnI i' j' := by
  unfold mnI
  split <;> split <;> omega
theorem mnI_ge {i j k : Int} (h : k ≤ i) (g : k ≤ j) : k ≤ mnI i j := by
  unfold mnI
  split <;> omega
theorem wt_one {hw : List (Str × Int)} {n : Nat} {w : Str} : wt hw n (.tuple [.str w]) = if decide (V.str w = V.str "none") = true then 10 ^ 9 else 1 := by cases n <;> rfl
theorem wt_nm {hw : List (Str × Int)} {n : Nat} {w x : Str} : wt hw n (.tuple [.str w, .str x]) = (lookN hw x).getD 0 := by cases n <;> rfl
theorem wt_two {hw : List (Str × Int)} {n : Nat} {w : Str} {a b : PyData} : wt hw (n + 1) (.tuple [.str w, a, b]) = mnI (10 ^ 9) (1 + (if wE w = true then mnI (wt hw n a) (wt hw n b) else wt hw n a + wt hw n b)) := rfl
/-- lower numbers, lower weights -/
theorem wt_mono {hw hw' : List (Str × Int)} (h : ∀ x, (lookN hw' x).getD 0 ≤ (lookN hw x).getD 0) : ∀ (n : Nat) (d : PyData), fB n d = true → wt hw' n d ≤ wt hw n d
  | 0, d, f => by cases f
  | n + 1, d, f => by
    rcases fB_cases f with ⟨w, rfl, _⟩ | ⟨w, x, rfl, _, _⟩ | ⟨m, w, a, b, en, rfl, _, ha, hb⟩
    · rw [wt_one, wt_one]
      exact Int.le_refl _
    · rw [wt_nm, wt_nm]
      exact h x
    · obtain rfl : n = m := by omega
      have ia := wt_mono h n a ha
      have ib := wt_mono h n b hb
      rw [wt_two, wt_two]
      refine mnI_mono (Int.le_refl _) (Int.add_le_add_left ?_ _)
      split
      · exact mnI_mono ia ib
      · exact Int.add_le_add ia ib
/-- every number at least 1, so every weight -/
theorem wt_pos {hw : List (Str × Int)} : ∀ (n : Nat) (d : PyData), fB n d = true → (∀ x ∈ (ms n d).2.2, ∃ k, lookN hw x = some k ∧ 1 ≤ k) → 1 ≤ wt hw n d
  | 0, d, f, _ => by cases f
  | n + 1, d, f, h => by
    rcases fB_cases f with ⟨w, rfl, _⟩ | ⟨w, x, rfl, _, _⟩ | ⟨m, w, a, b, en, rfl, _, ha, hb⟩
    · rw [wt_one]
      split <;> decide
    · rw [wt_nm]
      obtain ⟨k, e, g⟩ := h x (show x ∈ [x] from List.mem_singleton.mpr rfl)
      rw [e]
      exact g
    · obtain rfl : n = m := by omega
      rw [ms_row] at h
      have ia := wt_pos n a ha fun x m => h x (List.mem_append.mpr (.inl m))
      have ib := wt_pos n b hb fun x m => h x (List.mem_append.mpr (.inr m))
      rw [wt_two]
      refine mnI_ge (by decide) ?_
      split
      · have := mnI_ge ia ib
        omega
      · omega
/-- the names' numbers: each bears 1 and the weight of its kind, or is 10 ** 9 -/
structure Fal (bk : List (Str × PyData)) (hw : List (Str × Int)) : Prop where
  all : ∀ p ∈ bk, ∃ k, lookN hw p.1 = some k ∧ 1 ≤ k ∧ k ≤ 10 ^ 9 ∧ ∀ n, fB n p.2 = true → k < 10 ^ 9 → 1 + wt hw n p.2 ≤ k
/-- 1 and the weight put in its place -/
theorem Fal.put {bk : List (Str × PyData)} {hw : List (Str × Int)} {y : Str} {d : PyData} {n : Nat} (F : Fal bk hw) (dist : ∀ p ∈ bk, p.1 = y → p.2 = d) (un : ∀ m, fB m d = true → ∀ hw, wt hw m d = wt hw n d) (mem : (y, d) ∈ bk) (f : fB n d = true) (ps : 1 ≤ wt hw n d) : Fal bk (putI hw y (mnI (10 ^ 9) (1 + wt hw n d))) := by
  have low : ∀ x, (lookN (putI hw y (mnI (10 ^ 9) (1 + wt hw n d))) x).getD 0 ≤ (lookN hw x).getD 0 := fun x => by
    rw [lookN_put]
    by_cases e : y = x
    · rw [if_pos e, ← e]
      obtain ⟨k, e1, e2, e3, e4⟩ := F.all _ mem
      rw [e1]
      show mnI _ _ ≤ k
      have l1 := (mnI_le (i := 10 ^ 9) (j := 1 + wt hw n d)).1
      have l2 := (mnI_le (i := 10 ^ 9) (j := 1 + wt hw n d)).2
      by_cases g : k < 10 ^ 9
      · have q : 1 + wt hw n d ≤ k := e4 n f g
        omega
      · omega
    · rw [if_neg e]
      exact Int.le_refl _
  refine ⟨fun p mp => ?_⟩
  obtain ⟨k, e1, e2, e3, e4⟩ := F.all p mp
  rw [lookN_put]
  by_cases e : y = p.1
  · rw [if_pos e]
    have ed := dist p mp e.symm
    refine ⟨_, rfl, mnI_ge (by decide) (by omega), mnI_le.1, fun m fm g => ?_⟩
    rw [ed] at fm ⊢
    rw [un m fm]
    have := wt_mono low n d f
    unfold mnI at g ⊢
    split at g
    · rename_i hlt
      rw [if_pos hlt]
      unfold mnI at this
      rw [if_pos hlt] at this
      omega
    · exact absurd g (by omega)
  · rw [if_neg e]
    refine ⟨k, e1, e2, e3, fun m fm g => ?_⟩
    have := wt_mono low m p.2 fm
    have := e4 m fm g
    omega
end Toy
set_option Elab.async false
set_option linter.all false
set_option maxRecDepth 100000
set_option maxHeartbeats 2000000
namespace Toy
open PySem L2 PyProof.Rows
abbrev sHv : Stmt := top 75
theorem wt_fuel {hw : List (Str × Int)} : ∀ {n m : Nat} {d : PyData}, fB n d = true → fB m d = true → wt hw m d = wt hw n d
  | 0, _, _, h, _ => nomatch h
  | n + 1, m, d, h, g => by
    obtain ⟨m, rfl⟩ : ∃ k, m = k + 1 := by
      cases m with
      | zero => cases g
      | succ k => exact ⟨k, rfl⟩
    rcases fB_cases h with ⟨w, rfl, _⟩ | ⟨w, x, rfl, _, _⟩ | ⟨n', w, a, b, en, rfl, _, ha, hb⟩
    · rw [wt_one, wt_one]
    · rw [wt_nm, wt_nm]
    · obtain rfl : n = n' := by omega
      rcases fB_cases g with ⟨w', e, _⟩ | ⟨w', x, e, _, _⟩ | ⟨m', w', a', b', em, e, _, ha', hb'⟩
      · cases e
      · cases e
      · cases e
        obtain rfl : m = m' := by omega
        rw [wt_two, wt_two, wt_fuel ha ha', wt_fuel hb hb']
theorem lookN_any {x : Str} : ∀ {l : List (Str × Int)}, (lookN l x).isSome = l.any fun p => decide (p.1 = x)
  | [] => rfl
  | p :: l => by
    rw [lookN_cons, List.any_cons, ← lookN_any]
    by_cases e : p.1 = x
    · rw [if_pos e, decide_eq_true e]
      rfl
    · rw [if_neg e, decide_eq_false e, Bool.false_or]
theorem putI_len {l : List (Str × Int)} {x : Str} {v : Int} (h : (lookN l x).isSome = true) : (putI l x v).length = l.length := by
  rw [lookN_any] at h
  unfold putI
  rw [h, if_pos rfl, List.length_map]
theorem putI_len1 {l : List (Str × Int)} {x : Str} {v : Int} : (putI l x v).length ≤ l.length + 1 := by
  unfold putI
  split
  · rw [List.length_map]
    omega
  · rw [List.length_append]
    exact Nat.le_refl _
theorem look_mem1 {x : Str} : ∀ {bk : List (Str × PyData)}, (lookB bk x).isSome = true → ∃ p ∈ bk, p.1 = x
  | [], h => nomatch h
  | p :: bk, h => by
    rw [look_cons] at h
    by_cases e : p.1 = x
    · exact ⟨p, List.mem_cons_self, e⟩
    · rw [if_neg e] at h
      obtain ⟨q, m, e2⟩ := look_mem1 h
      exact ⟨q, List.mem_cons_of_mem _ m, e2⟩
theorem row_fit {j : Nat} {ds : List PyData} (b : BookL j ds) {p : Str × PyData} (mp : p ∈ bkOf (.tuple ds)) : fB 24 p.2 = true ∧ ∀ x ∈ (ms 24 p.2).2.2, ∃ p' ∈ bkOf (.tuple ds), p'.1 = x := by
  obtain ⟨r, mr, er⟩ := List.mem_map.mp mp
  obtain ⟨y, k, e1, ty, lv, tx⟩ := b.rows r mr
  obtain ⟨y', k', e2, _, kn, _⟩ := tb_rows (b.tb 30 (Nat.le_refl _)) r mr
  subst e1
  cases e2
  subst er
  obtain ⟨n, hn, f, _⟩ := lv.form
  have f24 : fB 24 k = true := fB_fuel f hn
  refine ⟨f24, fun x mx => ?_⟩
  have mx : x ∈ (ms 24 k).2.2 := mx
  rw [← ms_fuel f24 (by decide : 24 ≤ 30)] at mx
  exact look_mem1 (List.all_eq_true.mp (Bool.and_eq_true_iff.mp kn).2 x mx)
theorem dp_vals {K : PySem.W.Frag} {H : Hp} : ∀ {acc : List (Key × V)} {hw : List (Str × Int)}, Paired HvR acc hw → DpAll K H (acc.map (·.2)) (hw.map fun p => PyData.int p.2)
  | _, _, .nil => .nil
  | _, _, .cons (a := kv) (b := p) r t => .cons (by show Dp K H kv.2 (.int p.2); rw [r.2]; exact .int _) (dp_vals t)
theorem sh_ints (hw : List (Str × Int)) : SeqAt.shaped (.list (hw.map fun p => PyData.int p.2)) = true := by
  have c : ∀ hw : List (Str × Int), PyData.canLayAll0 (hw.map fun p => PyData.int p.2) = true := fun hw => by
    induction hw with
    | nil => rfl
    | cons p l ih => exact Bool.and_eq_true_iff.mpr ⟨rfl, ih⟩
  have d : ∀ hw : List (Str × Int), PyData.depthAll (hw.map fun p => PyData.int p.2) ≤ 8 := fun hw => by
    induction hw with
    | nil => decide
    | cons p l ih =>
      simp only [List.map_cons, PyData.depthAll, PyData.depth]
      omega
  refine Bool.and_eq_true_iff.mpr ⟨c hw, decide_eq_true ?_⟩
  have := d hw
  simp only [PyData.depth]
  omega
def spHv (K : PySem.W.Frag) : Sp := fun vs H Q _ => ∃ (t : Addr) (kvs : List (Key × V)) (ds : List PyData) (j : Nat), vs = [.ref t] ∧ H t = some (.dK kvs) ∧ Paired (TabR K H) kvs (bkOf (.tuple ds)) ∧ BookL j ds ∧
  ∀ (o : Addr) (H' : Hp) (acc : List (Key × V)) (hw : List (Str × Int)), Same H H' → H o = none → H' o = some (.dK acc) → Paired HvR acc hw → Fal (bkOf (.tuple ds)) hw → Q (.ref o) H'
section
variable {P : Program} {w : World} {K : PySem.W.Frag} {mg : Str → Option Value} {base : Heap}
theorem scHv : FnScope ["of", "heavy", "name", "lap", "past"] ["of"] (defScope sHv) := ⟨rfl, rfl, rfl, by decide +kernel, rfl, by decide +kernel, by decide +kernel⟩
theorem ok_heavy {f gW : Addr} {fd dW : FuncData} {k : Nat} (F : Fun K "_law_heavy" "_law_heavy" sHv f fd) (R : Nr mg) (LN : mg "len" = none) (LS : mg "list" = none) (MI : mg "min" = none) (WT : Gv P w K mg base k "_law_weight" gW dW ["heavy", "form"] (spWt K 24)) : FnOk P w K mg base CX0 (k + 1) f fd ["of"] (spHv K) := by
  refine F.ok scHv (fun vs H Q E h => ?_) (fun cdv A outer s H vs Q E hrw h => ?_)
  · obtain ⟨t, kvs, ds, j, rfl, _⟩ := h
    rfl
  obtain ⟨t, kvs, ds, j, rfl, ht, tp, b, q⟩ := h
  have hr := hrw
  have hu1 := Nat.lt_of_le_of_lt (Nat.add_le_add_left (by decide : 1 ≤ 64) _) hrw.units
  refine ⟨_, (pss_cons (ps_set (i := 1) scHv.nd rfl (.inl rfl) pe_dnewK)
    (pss_cons (ps_lock (ps_for PassesOwn.never rfl (pi_keys (pv 0)) (pg_name (i := 2) scHv.nd rfl (.inl rfl)) (pss_one (ps_dput hu1 (pv 1) (pv 2) (pe_op op_pow pe_int pe_int) rfl))))
    (pss_cons (ps_for PassesOwn.never rfl (pi_range1 (by rfl) R.range (pa_cons (pe_callB call_lenD rfl LN PySem.boot_len (pa_cons (pv 0) pa_nil)) pa_nil)) (pg_name (i := 3) scHv.nd rfl (.inl rfl)) (pss_cons (ps_set (i := 4) scHv.nd rfl (.inl rfl) (Lrow.pe_listVals rfl (pv 1) rfl LS))
    (pss_cons (ps_lock (ps_for PassesOwn.never rfl (pi_keys (pv 0)) (pg_name (i := 2) scHv.nd rfl (.inl rfl)) (pss_one (ps_dput hu1 (pv 1) (pv 2) (pe_callB (call_min2 rfl) rfl MI (by decide +kernel) (pa_cons (pe_op op_pow pe_int pe_int) (pa_cons (pe_op op_add pe_int (pe_call WT.ok hrw rfl WT.m WT.k WT.b .nil pass0 (pa_cons (pv 1) (pa_cons (pe_dget hu1 (pv 0) (pv 2) (fun _ _ => rfl)) pa_nil)))) pa_nil))) rfl))))
    (pss_one (ps_if (pt_cmpR (op_eqD hr.units) (pv 4) (Lrow.pe_listVals rfl (pv 1) rfl LS) (nomark _)) (pss_one ps_break) pss_nil)))))
    (pss_one (ps_ret (pv 1)))))), ?_⟩
  have zs : ∀ {k : Nat}, k ≤ 200 → k < sizeLine := fun h => Nat.lt_of_le_of_lt h (by decide)
  have dist := bk_dist b
  have hbl : (bkOf (.tuple ds)).length = ds.length := List.length_map ..
  have lk : kvs.length = ds.length := by rw [tp.length, hbl]
  have few := b.few
  have bne : bkOf (.tuple ds) ≠ [] := fun z => b.ne (List.eq_nil_of_length_eq_zero (by rw [← hbl, z]; rfl))
  obtain ⟨q0, r0, ek⟩ := paired_ne tp bne
  have bigT : BigD H t := ⟨q0, r0, .inl (by rw [← ek]; exact ht)⟩
  have tpo : Paired (TabR K (off2 H t t)) kvs (bkOf (.tuple ds)) := paired_imp (fun kv p z => ⟨z.1, Dq.off bigT bigT _ _ z.2⟩) tp
  have uniq : ∀ p ∈ bkOf (.tuple ds), ∀ p' ∈ bkOf (.tuple ds), p.1 = p'.1 → p.2 = p'.2 := fun p m p' m' e => by
    have e1 := look_of dist m
    have e2 := look_of dist m'
    rw [e, e2] at e1
    exact (Option.some.inj e1).symm
  refine fun o ho => ?_
  have nto : t ≠ o := fun z => by rw [z, ho] at ht; cases ht
  refine ⟨t, .dK kvs, same_new ho _ _ _ ht, trivial, fun od => ?_⟩
  refine ⟨_, rfl, t, od, rfl, .inl ⟨kvs, upd_same, ?_⟩⟩
  refine for_it (walk_keys (kvs := kvs)) (fun i σ H' => ∃ acc hw c, σ = [some (.ref t), some (.ref o), c, none, none] ∧ (∀ x w, x ≠ t → H x = some w → H' x = some w) ∧ H' t = some (.frz od (.dK kvs)) ∧ H' o = some (.dK acc) ∧ Paired HvR acc hw ∧ (∀ p ∈ (bkOf (.tuple ds)).take i, lookN hw p.1 = some (10 ^ 9)) ∧ hw.length ≤ i)
    ⟨[], [], none, rfl, (fun x w n e => by rw [upd_ne n, upd_ne (ne_of_none e ho)]; exact e), upd_same, (by rw [upd_ne (Ne.symm nto), upd_same]), .nil, (fun p m => nomatch m), Nat.le_refl _⟩ (fun i σ H' _ ⟨_, _, _, _, _, z, _⟩ => z) ?_ ?_
  · rintro i y0 σ H5' H5 hi ⟨acc, hw, c, rfl, k5, t5, o5, hv5, in5, l5⟩ ⟨rfl, k, v0, hk, rfl⟩
    obtain ⟨p, hp, hR⟩ := LiI.paired_get tp hk
    have ekk : k = Sum.inr p.1 := hR.1
    subst ekk
    have la : acc.length = hw.length := hv5.length
    refine ⟨_, _, rfl, rfl, ⟨by decide, by decide, by decide⟩, _, rfl, _, rfl, o, _, rfl, DPut.k (k := .inr p.1) o5 (zs (by omega)), ?_⟩
    refine ⟨_, _, _, rfl, (fun x w n e => by rw [upd_ne (ne_of_none e ho)]; exact k5 x w n e), by rw [upd_ne nto]; exact t5, upd_same, hv_put hv5, fun p' mp' => ?_, Nat.le_trans putI_len1 (by omega)⟩
    rw [lookN_put]
    by_cases e : p.1 = p'.1
    · rw [if_pos e]
      rfl
    · rw [if_neg e]
      rw [List.take_add_one, hp] at mp'
      rcases List.mem_append.mp mp' with m | m
      · exact in5 p' m
      · exact absurd (by rw [List.mem_singleton.mp m]) e
  rintro σ H5 ⟨acc, hw, c, rfl, k5, t5, o5, hv5, in5, l5⟩
  have in5 : ∀ p ∈ bkOf (.tuple ds), lookN hw p.1 = some (10 ^ 9) := fun p m => in5 p (by rw [tp.length, List.take_length]; exact m)
  have fal5 : Fal (bkOf (.tuple ds)) hw := ⟨fun p m => ⟨_, in5 p m, by decide, Int.le_refl _, fun n f g => absurd g (by decide)⟩⟩
  refine ⟨t5, ?_⟩
  refine ⟨_, rfl, t, kvs, rfl, upd_same, _, rfl, by omega, by omega, ?_⟩
  refine for_it walk_range (fun i σ H' => ∃ acc hw c2 c3 c4, σ = [some (.ref t), some (.ref o), c2, c3, c4] ∧ (∀ x w, x ≠ t → H x = some w → H' x = some w) ∧ H' t = some (.dK kvs) ∧ H' o = some (.dK acc) ∧ Paired HvR acc hw ∧ Fal (bkOf (.tuple ds)) hw ∧ hw.length ≤ 80)
    ⟨acc, hw, _, _, _, rfl, (fun x w n e => by rw [upd_ne n]; exact k5 x w n e), upd_same, by rw [upd_ne (Ne.symm nto)]; exact o5, hv5, fal5, by omega⟩ (fun _ _ _ _ _ => trivial) ?_ ?_
  · rintro i y0 σ H6' H6 hi ⟨acc, hw, c2, c3, c4, rfl, k6, t6, o6, hv6, fal6, l6⟩ ⟨rfl, rfl⟩
    refine ⟨_, rfl, o, acc, rfl, o6, fun l hl => ?_⟩
    have ntl : t ≠ l := ne_of_none t6 hl
    have nol : o ≠ l := ne_of_none o6 hl
    refine ⟨t, .dK kvs, (by rw [upd_ne ntl]; exact t6), trivial, fun od2 => ?_⟩
    refine ⟨_, rfl, t, od2, rfl, .inl ⟨kvs, upd_same, ?_⟩⟩
    refine for_it (walk_keys (kvs := kvs)) (fun i σ H' => ∃ acc2 hw2 c d, σ = [some (.ref t), some (.ref o), c, d, some (.ref l)] ∧ (∀ x w, x ≠ t → H x = some w → H' x = some w) ∧ H' t = some (.frz od2 (.dK kvs)) ∧ H' o = some (.dK acc2) ∧ Paired HvR acc2 hw2 ∧ Fal (bkOf (.tuple ds)) hw2 ∧ hw2.length ≤ 80 ∧ H' l = some (.lst (acc.map (·.2))))
      ⟨acc, hw, _, _, rfl, (fun x w n e => by have e6 := k6 x w n e; rw [upd_ne n, upd_ne (ne_of_none e6 hl)]; exact e6), upd_same, (by rw [upd_ne (Ne.symm nto), upd_ne nol]; exact o6), hv6, fal6, l6, (by rw [upd_ne (Ne.symm ntl), upd_same])⟩ (fun i σ H' _ ⟨_, _, _, _, _, _, z, _⟩ => z) ?_ ?_
    · rintro i2 y0 σ H7' H7 hi2 ⟨acc2, hw2, c, d, rfl, k7, t7, o7, hv7, fal7, l7, pl7⟩ ⟨rfl, k, v0, hk, rfl⟩
      obtain ⟨p, hp, hR⟩ := LiI.paired_get tp hk
      have ekk : k = Sum.inr p.1 := hR.1
      subst ekk
      have mp : p ∈ bkOf (.tuple ds) := List.mem_of_getElem? hp
      obtain ⟨f24, nm24⟩ := row_fit b mp
      rcases tab_look (x := p.1) tpo with ⟨_, l0⟩ | ⟨v1, d1, e1, l1, D1⟩
      · rw [look_of dist mp] at l0
        cases l0
      have ed : d1 = p.2 := by
        rw [look_of dist mp] at l1
        exact (Option.some.inj l1).symm
      subst ed
      have gk : DGet H7 t (kV (Sum.inr p.1)) (valV kvs (Sum.inr p.1)) := .inl ⟨kvs, Sum.inr p.1, .inr ⟨od2, t7⟩, rfl, rfl⟩
      rw [e1] at gk
      have D1' : Dq K H7 v1 p.2 := Dq.mono (fun x w e => by
        obtain ⟨n1, _, e2⟩ := off2_inv e
        exact k7 x w n1 e2) _ _ D1
      have nms : ∀ x ∈ (ms 24 p.2).2.2, ∃ k, lookN hw2 x = some k ∧ 1 ≤ k := fun x mx => by
        obtain ⟨p', m', e'⟩ := nm24 x mx
        obtain ⟨k, g1, g2, _⟩ := fal7.all p' m'
        exact ⟨k, by rw [← e']; exact g1, g2⟩
      have la : acc2.length = hw2.length := hv7.length
      refine ⟨_, _, rfl, rfl, ⟨by decide, by decide, by decide⟩, _, rfl, _, rfl, _, rfl, t, v1, rfl, gk, o, v1, acc2, hw2, p.2, rfl, o7, hv7, D1', f24, (fun x mx => by obtain ⟨k, g, _⟩ := nms x mx; rw [g]; rfl), fun H8 s8 => ?_⟩
      refine ⟨_, _, rfl, rfl, _, _, rfl, _, rfl, _, rfl, o, _, rfl, DPut.k (k := .inr p.1) (s8 _ _ o7) (zs (by omega)), ?_⟩
      obtain ⟨kp, gp, _⟩ := fal7.all p mp
      have isp : (lookN hw2 p.1).isSome = true := by rw [gp]; rfl
      exact ⟨_, putI hw2 p.1 (mnI (10 ^ 9) (1 + wt hw2 24 p.2)), _, _, rfl, (fun x w n e => by rw [upd_ne (ne_of_none e ho)]; exact s8 _ _ (k7 x w n e)), (by rw [upd_ne nto]; exact s8 _ _ t7), upd_same, hv_put hv7,
        fal7.put (fun p' m' e => uniq p' m' p mp e) (fun m fm hw => wt_fuel f24 fm) mp f24 (wt_pos 24 p.2 f24 nms), by rw [putI_len isp]; exact l7, by rw [upd_ne (Ne.symm nol)]; exact s8 _ _ pl7⟩
    rintro σ H7 ⟨acc2, hw2, c, d, rfl, k7, t7, o7, hv7, fal7, l7, pl7⟩
    refine ⟨t7, ?_⟩
    have o8 : upd H7 t (.dK kvs) o = some (.dK acc2) := by rw [upd_ne (Ne.symm nto)]; exact o7
    have pl8 : upd H7 t (.dK kvs) l = some (.lst (acc.map (·.2))) := by rw [upd_ne (Ne.symm ntl)]; exact pl7
    refine ⟨_, rfl, _, rfl, o, acc2, rfl, o8, fun l2 hl2 => ?_⟩
    have nll : l ≠ l2 := ne_of_none pl8 hl2
    have nol2 : o ≠ l2 := ne_of_none o8 hl2
    have ntl2 : t ≠ l2 := ne_of_none (o := .dK kvs) upd_same hl2
    have k9 : ∀ x w, x ≠ t → H x = some w → upd (upd H7 t (.dK kvs)) l2 (.lst (acc2.map (·.2))) x = some w := fun x w n e => by
      have e7 : upd H7 t (.dK kvs) x = some w := by rw [upd_ne n]; exact k7 x w n e
      rw [upd_ne (ne_of_none e7 hl2)]
      exact e7
    have t9 : upd (upd H7 t (.dK kvs)) l2 (.lst (acc2.map (·.2))) t = some (.dK kvs) := by rw [upd_ne ntl2, upd_same]
    have o9 : upd (upd H7 t (.dK kvs)) l2 (.lst (acc2.map (·.2))) o = some (.dK acc2) := by rw [upd_ne nol2]; exact o8
    refine ⟨_, _, Dp.lst (SqL.of (by rw [upd_ne nll]; exact pl8)) (dp_vals hv6), Dp.lst (SqL.of upd_same) (dp_vals hv7), sh_ints _, sh_ints _, ?_⟩
    refine ⟨_, rfl, ?_⟩
    refine ite2 (fun g => ?_) (fun g => ?_)
    · refine ⟨_, rfl, q o _ acc2 hw2 (fun x w e => ?_) ho o9 hv7 fal7⟩
      by_cases n : x = t
      · subst n
        rw [t9, ← ht]
        exact e
      · exact k9 x w n e
    · exact ⟨acc2, hw2, _, _, _, rfl, k9, t9, o9, hv7, fal7, l7⟩
  · rintro σ H6 ⟨acc, hw, c2, c3, c4, rfl, k6, t6, o6, hv6, fal6, l6⟩
    refine ⟨_, rfl, q o _ acc hw (fun x w e => ?_) ho o6 hv6 fal6⟩
    by_cases n : x = t
    · subst n
      rw [t6, ← ht]
      exact e
    · exact k6 x w n e
end
end Toy
set_option Elab.async false
set_option linter.all false
set_option maxRecDepth 100000
set_option maxHeartbeats 2000000
namespace Toy
open PySem L2 PyProof.Rows
abbrev sNu : Stmt := top 76
/-! ### a whole number drawn -/
def spNu : Sp := fun vs H Q _ => ∃ wl : Addr, vs = [.ref wl] ∧ WellAt H wl ∧ ∀ (i : Int) (H' : Hp), -(10 ^ 34) ≤ i → i ≤ 10 ^ 34 → WellAt H' wl → But wl H H' → Q (.int i) H'
section
variable {P : Program} {w : World} {K : PySem.W.Frag} {mg : Str → Option Value} {base : Heap}
theorem scNu : FnScope ["spring", "great"] ["spring"] (defScope sNu) := ⟨rfl, rfl, rfl, by decide +kernel, rfl, by decide +kernel, by decide +kernel⟩
theorem ok_number {f gD gP : Addr} {fd dD dP : FuncData} (F : Fun K "_law_number" "_law_number" sNu f fd) (D : Gv P w K mg base 1 "_law_draw" gD dD ["spring", "top"] spDraw) (PK : Gv P w K mg base 2 "_law_pick" gP dP ["spring", "some"] (spPick K)) : FnOk P w K mg base CX0 3 f fd ["spring"] spNu := by
  refine F.ok scNu (fun vs H Q E h => ?_) (fun cdv A outer s H vs Q E hr h => ?_)
  · obtain ⟨wl, rfl, _⟩ := h
    rfl
  obtain ⟨wl, rfl, st, q⟩ := h
  have hr1 : Room 1 (A.deeper _) := hr.mono (by omega)
  have hr2 : Room 2 (A.deeper _) := hr
  refine ⟨_, (pss_cons (ps_if (pt_cmpR op_eq (pe_call D.ok hr1 rfl D.m D.k D.b .nil pass0 (pa_cons (pv 0) (pa_cons pe_int pa_nil))) pe_int (nomark _)) (pss_cons (ps_set (i := 1) scNu.nd rfl (.inl rfl) (pe_call PK.ok hr2 rfl PK.m PK.k PK.b .nil pass0 (pa_cons (pv 0) (pa_cons (pe_tup (pa_cons (pe_op op_pow pe_int pe_int) (pa_cons (pe_op op_pow pe_int pe_int) (pa_cons (pe_op op_pow pe_int pe_int) pa_nil)))) pa_nil))))
    (pss_one (ps_ret (pe_op op_add (pe_op op_mul (pe_op op_sub (pe_call D.ok hr1 rfl D.m D.k D.b .nil pass0 (pa_cons (pv 0) (pa_cons pe_int pa_nil))) pe_int) (pv 1)) (pe_call D.ok hr1 rfl D.m D.k D.b .nil pass0 (pa_cons (pv 0) (pa_cons pe_int pa_nil))))))) pss_nil)
    (pss_one (ps_ret (pe_op op_sub (pe_call D.ok hr1 rfl D.m D.k D.b .nil pass0 (pa_cons (pv 0) (pa_cons pe_int pa_nil))) pe_int)))), ?_⟩
  refine ⟨_, rfl, wl, 12, rfl, by decide, by decide, st, fun f0 H1 l0 g0 w1 b1 => ?_⟩
  refine ⟨rfl, _, rfl, ?_⟩
  refine ite2 (fun g => ?_) (fun g => ?_)
  · refine ⟨_, rfl, _, _, rfl, rfl, ⟨by decide, by decide, by decide⟩, _, _, rfl, rfl, ⟨by decide, by decide, by decide⟩, _, _, rfl, rfl, ⟨by decide, by decide, by decide⟩, ?_⟩
    refine ⟨Nat.le_trans (by decide : 3 ≤ 200) (by decide), fun p hp => ?_⟩
    refine ⟨wl, p, [.int (10 ^ 3), .int (10 ^ 9), .int (10 ^ 30)], rfl, well_new w1 hp _, SqT.of upd_same, by decide, by decide, fun v H2 mv w2 b2 => ?_⟩
    have great : ∃ g : Int, v = .int g ∧ 0 ≤ g ∧ g ≤ 10 ^ 30 := by
      rcases List.mem_cons.mp mv with e | mv
      · exact ⟨_, e, by decide, by decide⟩
      rcases List.mem_cons.mp mv with e | mv
      · exact ⟨_, e, by decide, by decide⟩
      exact ⟨_, List.mem_singleton.mp mv, by decide, by decide⟩
    obtain ⟨gr, rfl, gl, gu⟩ := great
    refine ⟨_, rfl, wl, 2001, rfl, by decide, by decide, w2, fun f1 H3 l1 g1 w3 b3 => ?_⟩
    refine ⟨_, _, rfl, rfl, _, rfl, ?_⟩
    refine ⟨_, _, rfl, rfl, .inl ⟨by omega, by omega⟩, ?_⟩
    refine ⟨_, rfl, wl, 7, rfl, by decide, by decide, w3, fun f2 H4 l2 g2 w4 b4 => ?_⟩
    refine ⟨_, _, rfl, rfl, ?_⟩
    have h1 : (f1 - 1000) * gr ≤ 1000 * gr := Int.mul_le_mul_of_nonneg_right (by omega) gl
    have h2 : (-1000) * gr ≤ (f1 - 1000) * gr := Int.mul_le_mul_of_nonneg_right (by omega) gl
    exact q _ _ (by omega) (by omega) w4 ((b1.trans (But.new hp _)).trans ((b2.trans b3).trans b4))
  · refine ⟨_, rfl, wl, 13, rfl, by decide, by decide, w1, fun f1 H2 l1 g1 w2 b2 => ?_⟩
    refine ⟨_, _, rfl, rfl, ?_⟩
    exact q _ _ (by omega) (by omega) w2 (b1.trans b2)
end
end Toy
set_option Elab.async false
set_option linter.all false
set_option maxRecDepth 100000
set_option maxHeartbeats 2000000
namespace Toy
open PySem L2 PyProof.Rows
section
variable {P : Program} {w : World} {K : PySem.W.Frag} {mg : Str → Option Value} {base : Heap}
theorem no_wt {vs : List V} {H : Hp} {Q : VK} {E : XK} (h : spWt K 0 vs H Q E) : False := by
  obtain ⟨t, v, kvs, hw, d, _, _, _, _, f, _⟩ := h
  cases f
theorem none_wt {f : Addr} {fd : FuncData} {k : Nat} : FnOk P w K mg base CX0 k f fd ["heavy", "form"] (spWt K 0) := ⟨fun _ _ _ _ h => (no_wt h).elim, fun _ _ _ _ _ _ _ _ _ _ _ _ _ h => (no_wt h).elim⟩
theorem weightsF {f : Addr} {fd : FuncData} (F : Fun K "_law_weight" "_law_weight" sWt f fd) (bF : Binds K fd ["heavy", "form"] []) (mF : mg "_law_weight" = some (.ref f)) (MI : mg "min" = none) : ∀ n : Nat, Gv P w K mg base (1 + n) "_law_weight" f fd ["heavy", "form"] (spWt K n)
  | 0 => ⟨none_wt, bF, F.kp, mF⟩
  | n + 1 => ⟨ok_weight (k := 1 + n) F MI (weightsF F bF mF MI n), bF, F.kp, mF⟩
end
end Toy
set_option Elab.async false
set_option linter.all false
set_option maxRecDepth 100000
set_option maxHeartbeats 2000000
/-! ### xs.extend(a tuple); while, by a word with a number; tuples that stay -/
namespace L2
open PySem PySem.Spec PyProof.Rows
/-- a tuple as it is made -/
def SqX (H : Hp) (a : Addr) (xs : List V) : Prop := ∃ o, H a = some (.frz o (.tup xs)) ∧ o.dict = none ∧ o.slots = #[]
theorem SqX.plain {K : PySem.W.Frag} {H : Hp} {a : Addr} {xs : List V} (h : SqX H a xs) : SqP K H a xs := by
  obtain ⟨o, e, d, _⟩ := h
  exact .of e d
theorem SqX.seqT {K : PySem.W.Frag} {H : Hp} {a : Addr} {xs : List V} (h : SqX H a xs) : SqT K H a xs := h.plain.seqT
section
variable {X : Cx}
def tTupX (t : TA) : TE := fun σ H Q => t σ H fun xs H1 => xs.length ≤ sizeLine ∧ ∀ p o, H1 p = none → o.dict = none → o.slots = #[] → Q (.ref p) (upd H1 p (.frz o (.tup xs)))
theorem pe_tupX {es : List Expr} {t : TA} {pos : Pos} {x1} (h : PA X es t) : PE X (.Tuple es x1 pos) (tTupX t) := by
  refine ⟨fun pins s σ H Q I hq => ?_⟩
  refine wpAny_Tuple_spliced (thn (h.run pos pins s σ H _ I hq) fun us s1 ⟨xs, H1, I1, r, z, q⟩ => ⟨by rw [← r.length]; exact z, ?_⟩)
  have hf : H1 s1.heap.objs.size = none := I1.hok.fresh (Nat.le_refl _)
  exact ⟨.ref s1.heap.objs.size, _, I1.laid (t' := s1.toks) (fun b u e => Heap.get?_push_of_some _ e) (Nat.le_refl _) (new_frz r z (Heap.get?_push_size _ rfl) _ _), rfl, q _ _ hf rfl rfl⟩
def rExtT : V → List V → Hp → VK → Prop := fun x vs H Q => ∃ l b xs zs, x = .ref l ∧ vs = [.ref b] ∧ H l = some (.lst xs) ∧ SqX H b zs ∧ xs.length + zs.length ≤ sizeLine ∧ Q .non (upd H l (.lst (xs ++ zs)))
theorem mt_extendT : MtM X "list.extend" rExtT := by
  intro pins s σ H x vs v us Q I rx rv h
  obtain ⟨l, b, xs, zs, rfl, rfl, hH, ⟨ob, hB, hd, hs⟩, hz, q⟩ := h
  cases rx
  obtain ⟨u, rfl, ru⟩ := rv.one
  cases ru
  obtain ⟨z, its, n, r, hl, e⟩ := I.lstM hH
  obtain ⟨g, hz2, its2, rv2, o', g', c, n2, dt⟩ := I.hok b _ hB
  have eo : ob = o' := Option.some.inj (g.symm.trans g')
  subst eo
  have e2 : s.heap.get? b = some { cls := .type "tuple", dict := none, data := .seq its2.toArray n2, slots := #[] } := by
    rw [g]
    cases ob
    dsimp only at c hd hs dt
    subst c hd hs dt
    rfl
  have hl2 := rv2.length
  have hsz : its.toArray.size + its2.toArray.size ≤ sizeLine := by rw [List.size_toArray, List.size_toArray]; omega
  have hlong : ¬ (!its.toArray.isEmpty && Builtin.List.listTooLong (its.toArray.size + its2.toArray.size)) = true := by
    rw [notLongL hsz, Bool.and_false]
    exact Bool.false_ne_true
  refine call_meets F.slot_list_extend ⟨_, e, rfl⟩ F.entry_list_extend (F.args_list_extend_2 _ _)
    (AutoSeq1.list_extend_list_tuple_0 l its.toArray n b its2.toArray n2 hlong (by rw [List.size_toArray]; omega) (by omega)) ⟨e, e2, ?_⟩
  refine ⟨.non, _, I.lset (its' := its ++ its2) hH e (by simp) (r.append rv2) ?_, rfl, q⟩
  rw [List.length_append]
  omega
end
/-- while, by a word that bears a number -/
theorem while_ix {c : TT} {tb : TS} {D : Ends} {σ : St} {H : Hp} (Pv : Nat → St → Hp → Prop) (m0 : Nat) (h0 : Pv m0 σ H)
    (hs : ∀ m σ H, Pv m σ H → c σ H fun b H1 => if b = true then tb { D with nx := fun σ' H' => ∃ m', m' < m ∧ Pv m' σ' H', ct := fun σ' H' => ∃ m', m' < m ∧ Pv m' σ' H', bk := D.nx } σ H1 else D.nx σ H1)
    (mono : ∀ σ H Q Q', (∀ b H1, Q b H1 → Q' b H1) → c σ H Q → c σ H Q') : tWhile c tb D σ H := by
  refine ⟨Pv, ⟨m0, h0⟩, fun m σ H p => ?_⟩
  refine mono σ H _ _ (fun b H1 q => ?_) (hs m σ H p)
  cases b with
  | true => exact ⟨_, fun σ' H' z => z, q⟩
  | false => exact q
end L2
namespace Toy
open PySem L2 PyProof.Rows
/-! ### texts, ints and tuples of such: they stay where the tuples stay -/
mutual
def plB : PyData → Bool
  | .str x => PyData.strOk x
  | .int _ => true
  | .tuple ds => plA ds
  | _ => false
def plA : List PyData → Bool
  | [] => true
  | d :: ds => plB d && plA ds
end
mutual
theorem st_pl : ∀ d : PyData, stB d = true → plB d = true
  | .str x, h => h
  | .tuple ds, h => stA_pl ds h
  | .none, h => nomatch h
  | .bool _, h => nomatch h
  | .int _, h => nomatch h
  | .list _, h => nomatch h
  | .dict _, h => nomatch h
theorem stA_pl : ∀ ds : List PyData, stA ds = true → plA ds = true
  | [], _ => rfl
  | d :: ds, h => by
    have h' : (stB d && stA ds) = true := h
    rw [Bool.and_eq_true] at h'
    show (plB d && plA ds) = true
    rw [st_pl d h'.1, stA_pl ds h'.2]
    rfl
end
/-- what was a tuple stays one -/
structure TS (H H' : Hp) : Prop where
  t : ∀ a xs, H a = some (.tup xs) → H' a = some (.tup xs)
  f : ∀ a o xs, H a = some (.frz o (.tup xs)) → H' a = some (.frz o (.tup xs))
theorem TS.refl (H : Hp) : TS H H := ⟨fun _ _ h => h, fun _ _ _ h => h⟩
theorem TS.trans {H H1 H2 : Hp} (a : TS H H1) (b : TS H1 H2) : TS H H2 := ⟨fun x y h => b.t x y (a.t x y h), fun x o y h => b.f x o y (a.f x o y h)⟩
theorem TS.same {H H' : Hp} (e : Same H H') : TS H H' := ⟨fun a xs h => e _ _ h, fun a o xs h => e _ _ h⟩
theorem TS.lst {H : Hp} {l : Addr} {ws : List V} (h : H l = some (.lst ws)) (zs : List V) : TS H (upd H l (.lst zs)) :=
  ⟨fun a xs e => by rw [upd_ne (fun z => by rw [z, h] at e; cases e)]; exact e, fun a o xs e => by rw [upd_ne (fun z => by rw [z, h] at e; cases e)]; exact e⟩
theorem TS.new {H : Hp} {p : Addr} (h : H p = none) (o : HO) : TS H (upd H p o) := .same (same_new h o)
theorem TS.but {wl : Addr} {H H' : Hp} (w : WellAt H wl) (e : But wl H H') : TS H H' := by
  obtain ⟨a, b, c, hw⟩ := w
  exact ⟨fun x xs h => e x _ (fun z => by rw [z, hw] at h; cases h) h, fun x o xs h => e x _ (fun z => by rw [z, hw] at h; cases h) h⟩
theorem TS.mn {wl : Addr} {H H' : Hp} (w : WellAt H wl) (e : Mn wl H H') : TS H H' := by
  obtain ⟨a, b, c, hw⟩ := w
  exact ⟨fun x xs h => e x _ (fun z => by rw [z, hw] at h; cases h) h (fun ps z => by cases z), fun x o xs h => e x _ (fun z => by rw [z, hw] at h; cases h) h (fun ps z => by cases z)⟩
mutual
theorem Dq.ts {K : PySem.W.Frag} {H H' : Hp} (e : TS H H') : ∀ (d : PyData) (v : V), plB d = true → Dq K H v d → Dq K H' v d
  | .str x, _, _, .str _ => .str x
  | .int i, _, _, .int _ => .int i
  | .tuple ds, _, h, .tup q A => .tup (by
      rcases q with ⟨o, q, d⟩ | q
      · exact .inl ⟨o, e.f _ _ _ q, d⟩
      · exact .inr q) (DqAll.ts e ds _ h A)
  | .none, _, h, _ => nomatch h
  | .bool _, _, h, _ => nomatch h
  | .list _, _, h, _ => nomatch h
  | .dict _, _, h, _ => nomatch h
theorem DqAll.ts {K : PySem.W.Frag} {H H' : Hp} (e : TS H H') : ∀ (ds : List PyData) (vs : List V), plA ds = true → DqAll K H vs ds → DqAll K H' vs ds
  | [], _, _, .nil => .nil
  | d :: ds, _, h, .cons p r => by
    have h' : (plB d && plA ds) = true := h
    rw [Bool.and_eq_true] at h'
    exact .cons (Dq.ts e d _ h'.1 p) (DqAll.ts e ds _ h'.2 r)
end
theorem TS.sqX {H H' : Hp} (e : TS H H') {a : Addr} {xs : List V} (h : SqX H a xs) : SqX H' a xs := by
  obtain ⟨o, q, r⟩ := h
  exact ⟨o, e.f _ _ _ q, r⟩
theorem TS.seqT {K : PySem.W.Frag} {H H' : Hp} (e : TS H H') {a : Addr} {xs : List V} (h : SqT K H a xs) : SqT K H' a xs := by
  rcases h with (h | ⟨o, h⟩) | h
  · exact .inl (.inl (e.t _ _ h))
  · exact .inl (.inr ⟨o, e.f _ _ _ h⟩)
  · exact .inr h
theorem plA_iff {ds : List PyData} : plA ds = true ↔ ∀ d ∈ ds, plB d = true := by
  induction ds with
  | nil => exact ⟨(fun _ _ m => nomatch m), fun _ => rfl⟩
  | cons d ds ih =>
    show (plB d && plA ds) = true ↔ _
    rw [Bool.and_eq_true, ih]
    refine ⟨fun ⟨a, b⟩ x m => ?_, fun h => ⟨h d List.mem_cons_self, fun x m => h x (List.mem_cons_of_mem _ m)⟩⟩
    rcases List.mem_cons.mp m with rfl | m
    · exact a
    · exact b x m
end Toy
set_option Elab.async false
set_option linter.all false
set_option maxRecDepth 100000
set_option maxHeartbeats 2000000
namespace Toy
open PySem L2 PyProof.Rows
/-! ### values of a kind, names unfolded -/
abbrev kThing : PyData := .tuple [.str "thing"]
abbrev kUnit : PyData := .tuple [.str "unit"]
abbrev kName (x : Str) : PyData := .tuple [.str "name", .str x]
abbrev kPair (a b : PyData) : PyData := .tuple [.str "pair", a, b]
abbrev kEith (a b : PyData) : PyData := .tuple [.str "either", a, b]
abbrev vPair (u v : PyData) : PyData := .tuple [.str "pair", u, v]
abbrev vLeft (u : PyData) : PyData := .tuple [.str "left", u]
abbrev vRight (u : PyData) : PyData := .tuple [.str "right", u]
/-- n bears the number of parts, each name one more -/
inductive Val (L : PyData → Prop) (bk : List (Str × PyData)) : Nat → PyData → PyData → Prop
  | thing {n : Nat} {d : PyData} : L d → Val L bk (n + 1) kThing d
  | unit {n : Nat} : Val L bk (n + 1) kUnit (.tuple [])
  | name {n : Nat} {x : Str} {k v : PyData} : lookB bk x = some k → Val L bk n k v → Val L bk (n + 1) (kName x) v
  | pair {n m p : Nat} {a b u v : PyData} : Val L bk m a u → Val L bk p b v → m + p + 1 ≤ n → Val L bk n (kPair a b) (vPair u v)
  | left {n : Nat} {a b u : PyData} : Val L bk n a u → Val L bk (n + 1) (kEith a b) (vLeft u)
  | right {n : Nat} {a b u : PyData} : Val L bk n b u → Val L bk (n + 1) (kEith a b) (vRight u)
theorem Val.up {L : PyData → Prop} {bk : List (Str × PyData)} {n : Nat} {k v : PyData} (h : Val L bk n k v) : ∀ {m : Nat}, n ≤ m → Val L bk m k v := by
  induction h with
  | thing l =>
    intro m hm
    obtain ⟨m, rfl⟩ : ∃ z, m = z + 1 := ⟨m - 1, by omega⟩
    exact .thing l
  | unit =>
    intro m hm
    obtain ⟨m, rfl⟩ : ∃ z, m = z + 1 := ⟨m - 1, by omega⟩
    exact .unit
  | name l _ ih =>
    intro m hm
    obtain ⟨m, rfl⟩ : ∃ z, m = z + 1 := ⟨m - 1, by omega⟩
    exact .name l (ih (by omega))
  | pair a b le _ _ =>
    intro m hm
    exact .pair a b (by omega)
  | left _ ih =>
    intro m hm
    obtain ⟨m, rfl⟩ : ∃ z, m = z + 1 := ⟨m - 1, by omega⟩
    exact .left (ih (by omega))
  | right _ ih =>
    intro m hm
    obtain ⟨m, rfl⟩ : ∃ z, m = z + 1 := ⟨m - 1, by omega⟩
    exact .right (ih (by omega))
theorem Val.pos {L : PyData → Prop} {bk : List (Str × PyData)} {n : Nat} {k v : PyData} (h : Val L bk n k v) : 1 ≤ n := by
  cases h <;> omega
/-- what leaves are -/
def numOk (d : PyData) : Prop := ∃ i : Int, d = .int i ∧ -(10 ^ 34) ≤ i ∧ i ≤ 10 ^ 34
def wordOk {w : Str} (h : PyData.strOk w = true) : plB (.str w) = true := h
theorem val_pl {L : PyData → Prop} (hL : ∀ d, L d → plB d = true) {bk : List (Str × PyData)} {n : Nat} {k v : PyData} (h : Val L bk n k v) : plB v = true := by
  induction h with
  | thing l => exact hL _ l
  | unit => rfl
  | name _ _ ih => exact ih
  | @pair n m p a b u v _ _ _ ia ib =>
    show (plB (.str "pair") && (plB u && (plB v && true))) = true
    rw [ia, ib]
    decide +kernel
  | @left n a b u _ ih =>
    show (plB (.str "left") && (plB u && true)) = true
    rw [ih]
    decide +kernel
  | @right n a b u _ ih =>
    show (plB (.str "right") && (plB u && true)) = true
    rw [ih]
    decide +kernel
/-! ### names followed -/
def Bare (k : PyData) : Prop := ∃ (w : Str) (r : List PyData), k = .tuple (.str w :: r) ∧ w ≠ "name"
inductive Hops (bk : List (Str × PyData)) : Nat → PyData → PyData → Prop
  | stop {k : PyData} : Bare k → Hops bk 0 k k
  | step {m : Nat} {x : Str} {k k' : PyData} : lookB bk x = some k → Hops bk m k k' → Hops bk (m + 1) (kName x) k'
theorem bare_name {x : Str} (h : Bare (kName x)) : False := by
  obtain ⟨w, r, e, n⟩ := h
  injection e with e
  injection e with e1 e2
  injection e1 with e1
  exact n e1.symm
theorem Hops.one {bk : List (Str × PyData)} {m : Nat} {k k' : PyData} (h : Hops bk m k k') : ∀ {m' : Nat} {k2 : PyData}, Hops bk m' k k2 → m = m' ∧ k' = k2 := by
  induction h with
  | stop b =>
    intro m' k2 g
    cases g with
    | stop _ => exact ⟨rfl, rfl⟩
    | step _ _ => exact (bare_name b).elim
  | step l _ ih =>
    intro m' k2 g
    cases g with
    | stop b => exact (bare_name b).elim
    | step l2 g =>
      rw [l] at l2
      cases l2
      obtain ⟨e1, e2⟩ := ih g
      exact ⟨by rw [e1], e2⟩
theorem Hops.end' {bk : List (Str × PyData)} {m : Nat} {k k' : PyData} (h : Hops bk m k k') : Bare k' := by
  induction h with
  | stop b => exact b
  | step _ _ ih => exact ih
theorem look_name {bk : List (Str × PyData)} {x : Str} {k : PyData} (h : lookB bk x = some k) : x ∈ bk.map (·.1) := by
  obtain ⟨p, mp, e, _⟩ := look_mem h
  exact List.mem_map.mpr ⟨p, mp, e⟩
theorem Hops.chain {bk : List (Str × PyData)} {m : Nat} {k k' : PyData} (h : Hops bk m k k') : ∃ l : List Str, l.length = m ∧ l.Nodup ∧ ∀ x ∈ l, x ∈ bk.map (·.1) ∧ ∃ j k2, j ≤ m ∧ 1 ≤ j ∧ Hops bk j (kName x) k2 := by
  induction h with
  | stop _ => exact ⟨[], rfl, .nil, (fun _ m => nomatch m)⟩
  | @step m x k k' l g ih =>
    obtain ⟨c, e, nd, hc⟩ := ih
    refine ⟨x :: c, by rw [List.length_cons, e], List.nodup_cons.mpr ⟨fun mx => ?_, nd⟩, fun y my => ?_⟩
    · obtain ⟨_, j, k2, hj, _, g2⟩ := hc x mx
      have := (Hops.step l g).one g2
      omega
    · rcases List.mem_cons.mp my with rfl | my
      · exact ⟨look_name l, m + 1, k', Nat.le_refl _, by omega, .step l g⟩
      · obtain ⟨a, j, k2, hj, j1, g2⟩ := hc y my
        exact ⟨a, j, k2, by omega, j1, g2⟩
theorem Hops.few {bk : List (Str × PyData)} {m : Nat} {k k' : PyData} (h : Hops bk m k k') : m ≤ bk.length := by
  obtain ⟨l, e, nd, hl⟩ := h.chain
  have := nodup_len (M := bk.map (·.1)) nd fun x mx => (hl x mx).1
  rw [List.length_map] at this
  omega
theorem bare_of {w : Str} {r : List PyData} (h : decide (w = "name") = false) : Bare (.tuple (.str w :: r)) := ⟨w, r, rfl, of_decide_eq_false h⟩
theorem Val.hops {L : PyData → Prop} {bk : List (Str × PyData)} {n : Nat} {k v : PyData} (h : Val L bk n k v) : ∃ m k' n', Hops bk m k k' ∧ n' + m ≤ n ∧ Val L bk n' k' v := by
  induction h with
  | @thing n d l => exact ⟨0, _, n + 1, .stop (bare_of (by decide +kernel)), Nat.le_refl _, .thing l⟩
  | @unit n => exact ⟨0, _, n + 1, .stop (bare_of (by decide +kernel)), Nat.le_refl _, .unit⟩
  | name l _ ih =>
    obtain ⟨m, k', n', g, le, w⟩ := ih
    exact ⟨m + 1, k', n', .step l g, by omega, w⟩
  | pair a b le _ _ => exact ⟨0, _, _, .stop (bare_of (by decide +kernel)), Nat.le_refl _, .pair a b le⟩
  | @left n a b u g _ => exact ⟨0, _, n + 1, .stop (bare_of (by decide +kernel)), Nat.le_refl _, .left g⟩
  | @right n a b u g _ => exact ⟨0, _, n + 1, .stop (bare_of (by decide +kernel)), Nat.le_refl _, .right g⟩
/-! ### the parts within a value of a kind that is no name -/
def sideD (s : Str) : Bool := decide (V.str s = V.str "left")
def kidsV : PyData → PyData → List (PyData × PyData)
  | .tuple [.str w, a, b], .tuple [_, u, v] => [(a, u), (b, v)]
  | .tuple [.str w, a, b], .tuple [.str s, u] => [(if sideD s = true then a else b, u)]
  | _, _ => []
theorem side_l : sideD "left" = true := by decide +kernel
theorem side_r : sideD "right" = false := by decide +kernel
theorem kids_l (a b u : PyData) : kidsV (kEith a b) (vLeft u) = [(a, u)] := by
  show [(if sideD "left" = true then a else b, u)] = _
  rw [side_l, if_pos rfl]
theorem kids_r (a b u : PyData) : kidsV (kEith a b) (vRight u) = [(b, u)] := by
  show [(if sideD "right" = true then a else b, u)] = _
  rw [side_r, if_neg Bool.false_ne_true]
/-! ### all parts, with kinds and paths, in the order of a walk -/
abbrev M3 := PyData × PyData × List Int
def kidsM (bk : List (Str × PyData)) : PyData → PyData → List Int → List M3
  | .tuple [.str w, e], v, p => match lookB bk (nmX e) with
    | some k => [(k, v, p)]
    | none => []
  | .tuple [.str w, a, b], .tuple [_, u, v], p => [(a, u, p ++ [1]), (b, v, p ++ [2])]
  | .tuple [.str w, a, b], .tuple [.str s, u], p => [(if sideD s = true then a else b, u, p ++ [1])]
  | _, _, _ => []
theorem kidsM_l (bk : List (Str × PyData)) (a b u : PyData) (p : List Int) : kidsM bk (kEith a b) (vLeft u) p = [(a, u, p ++ [1])] := by
  show [(if sideD "left" = true then a else b, u, p ++ [1])] = _
  rw [side_l, if_pos rfl]
theorem kidsM_r (bk : List (Str × PyData)) (a b u : PyData) (p : List Int) : kidsM bk (kEith a b) (vRight u) p = [(b, u, p ++ [1])] := by
  show [(if sideD "right" = true then a else b, u, p ++ [1])] = _
  rw [side_r, if_neg Bool.false_ne_true]
theorem kidsM_n {bk : List (Str × PyData)} {x : Str} {k : PyData} (h : lookB bk x = some k) (v : PyData) (p : List Int) : kidsM bk (kName x) v p = [(k, v, p)] := by
  show (match lookB bk (nmX (.str x)) with | some k => [(k, v, p)] | none => []) = _
  rw [show nmX (.str x) = x from rfl]
  rw [h]
def met (bk : List (Str × PyData)) : Nat → PyData → PyData → List Int → List M3
  | 0, _, _, _ => []
  | n + 1, k, v, p => (k, v, p) :: (kidsM bk k v p).flatMap fun c => met bk n c.1 c.2.1 c.2.2
section
variable {L : PyData → Prop} {bk : List (Str × PyData)}
/-- the parts below are values, of fewer parts together -/
theorem kidsM_val {n : Nat} {k v : PyData} (h : Val L bk n k v) (p : List Int) : ∃ fs : List Nat, fs.sum + 1 ≤ n ∧ Paired (fun m c => Val L bk m c.1 c.2.1) fs (kidsM bk k v p) := by
  cases h with
  | thing l => exact ⟨[], by simp, .nil⟩
  | unit => exact ⟨[], by simp, .nil⟩
  | @name n x k v l g =>
    rw [kidsM_n l]
    exact ⟨[n], by simp, .cons g .nil⟩
  | @pair n m q a b u v ga gb le => exact ⟨[m, q], by simp only [List.sum_cons, List.sum_nil]; omega, .cons ga (.cons gb .nil)⟩
  | @left n a b u g =>
    rw [kidsM_l]
    exact ⟨[n], by simp, .cons g .nil⟩
  | @right n a b u g =>
    rw [kidsM_r]
    exact ⟨[n], by simp, .cons g .nil⟩
theorem paired_mem_le {R : Nat → M3 → Prop} : ∀ {fs : List Nat} {cs : List M3}, Paired R fs cs → ∀ c ∈ cs, ∃ m ∈ fs, R m c ∧ m ≤ fs.sum
  | _, _, .nil => fun _ m => nomatch m
  | _, _, .cons (a := f) (l₁ := fs) r t => fun c mc => by
    rcases List.mem_cons.mp mc with rfl | mc
    · exact ⟨f, List.mem_cons_self, r, by rw [List.sum_cons]; omega⟩
    · obtain ⟨m, mm, g, le⟩ := paired_mem_le t c mc
      exact ⟨m, List.mem_cons_of_mem _ mm, g, by rw [List.sum_cons]; omega⟩
theorem flatMap_congr' {α β : Type} {f g : α → List β} : ∀ {l : List α}, (∀ x ∈ l, f x = g x) → l.flatMap f = l.flatMap g
  | [], _ => rfl
  | x :: l, h => by
    rw [List.flatMap_cons, List.flatMap_cons, h x List.mem_cons_self, flatMap_congr' (l := l) fun y m => h y (List.mem_cons_of_mem _ m)]
theorem met_fuel : ∀ {n m : Nat} {k v : PyData} {p : List Int}, Val L bk n k v → n ≤ m → met bk m k v p = met bk n k v p
  | 0, _, _, _, _, h, _ => absurd h.pos (by decide)
  | n + 1, 0, _, _, _, _, le => by omega
  | n + 1, m + 1, k, v, p, h, le => by
    show (k, v, p) :: _ = (k, v, p) :: _
    congr 1
    obtain ⟨fs, hs, pr⟩ := kidsM_val h p
    refine flatMap_congr' fun c mc => ?_
    obtain ⟨q, _, g, lq⟩ := paired_mem_le pr c mc
    rw [met_fuel g (by omega : q ≤ m), met_fuel g (by omega : q ≤ n)]
theorem met_step {n N : Nat} {k v : PyData} {p : List Int} (h : Val L bk n k v) (le : n ≤ N) : met bk N k v p = (k, v, p) :: (kidsM bk k v p).flatMap fun c => met bk N c.1 c.2.1 c.2.2 := by
  obtain ⟨N, rfl⟩ : ∃ z, N = z + 1 := ⟨N - 1, by have := h.pos; omega⟩
  show (k, v, p) :: _ = (k, v, p) :: _
  congr 1
  obtain ⟨fs, hs, pr⟩ := kidsM_val h p
  refine flatMap_congr' fun c mc => ?_
  obtain ⟨q, _, g, lq⟩ := paired_mem_le pr c mc
  rw [met_fuel g (by omega : q ≤ N), met_fuel g (by omega : q ≤ N + 1)]
/-- the path ahead stands ahead of all -/
theorem kidsM_pre (k v : PyData) (p q : List Int) : kidsM bk k v (p ++ q) = (kidsM bk k v q).map fun c => (c.1, c.2.1, p ++ c.2.2) := by
  unfold kidsM
  split
  · cases lookB bk _ <;> rfl
  · simp only [List.map_cons, List.map_nil, List.append_assoc]
  · simp only [List.map_cons, List.map_nil, List.append_assoc]
  · rfl
theorem met_pre : ∀ (n : Nat) (k v : PyData) (p q : List Int), met bk n k v (p ++ q) = (met bk n k v q).map fun c => (c.1, c.2.1, p ++ c.2.2)
  | 0, _, _, _, _ => rfl
  | n + 1, k, v, p, q => by
    show (k, v, p ++ q) :: _ = _
    rw [kidsM_pre]
    show _ = (k, v, p ++ q) :: _
    congr 1
    rw [List.flatMap_map, List.map_flatMap]
    exact flatMap_congr' fun c _ => met_pre n c.1 c.2.1 p c.2.2
/-- how many, how long -/
theorem met_len : ∀ {n : Nat} {k v : PyData} {p : List Int}, Val L bk n k v → (met bk n k v p).length ≤ n ∧ ∀ c ∈ met bk n k v p, c.2.2.length + 1 ≤ p.length + n
  | 0, _, _, _, h => absurd h.pos (by decide)
  | n + 1, k, v, p, h => by
    have go : ∀ (fs : List Nat) (cs : List M3), fs.sum ≤ n → (∀ c ∈ cs, c.2.2.length ≤ p.length + 1) → Paired (fun m c => Val L bk m c.1 c.2.1) fs cs → (cs.flatMap fun c => met bk n c.1 c.2.1 c.2.2).length ≤ fs.sum ∧ ∀ c ∈ cs.flatMap (fun c => met bk n c.1 c.2.1 c.2.2), c.2.2.length ≤ p.length + n := by
      intro fs cs hs hc pr
      induction pr with
      | nil => exact ⟨Nat.le_refl _, (fun _ m => nomatch m)⟩
      | @cons f c fs cs r t ih =>
        rw [List.sum_cons] at hs
        obtain ⟨i1, i2⟩ := ih (by omega) (fun c m => hc c (List.mem_cons_of_mem _ m))
        have hf : f ≤ n := by omega
        rw [List.flatMap_cons, List.sum_cons, met_fuel r hf]
        by_cases e : f = n + 1
        · omega
        have z := met_len (n := f) (p := c.2.2) r
        have lc := hc c List.mem_cons_self
        refine ⟨by rw [List.length_append]; omega, fun x mx => ?_⟩
        rcases List.mem_append.mp mx with mx | mx
        · have := z.2 x mx
          omega
        · exact i2 x mx
    obtain ⟨fs, hs, pr⟩ := kidsM_val h p
    have lk : ∀ c ∈ kidsM bk k v p, c.2.2.length ≤ p.length + 1 := fun c mc => by
      unfold kidsM at mc
      split at mc
      · split at mc
        · rw [List.mem_singleton.mp mc]; exact Nat.le_succ _
        · cases mc
      · rcases List.mem_cons.mp mc with e | mc
        · rw [e]; simp
        · rw [List.mem_singleton.mp mc]; simp
      · rw [List.mem_singleton.mp mc]; simp
      · cases mc
    obtain ⟨a, b⟩ := go fs _ (by omega) lk pr
    refine ⟨?_, fun c mc => ?_⟩
    · show (_ :: _).length ≤ _
      rw [List.length_cons]
      omega
    · rcases List.mem_cons.mp (show c ∈ (k, v, p) :: _ from mc) with e | mc
      · rw [e]
        show p.length + 1 ≤ _
        omega
      · have := b c mc
        omega
termination_by n => n
decreasing_by all_goals omega
end
/-! ### the paths to a hole -/
def roads (bk : List (Str × PyData)) (g : PyData) (n : Nat) (k v : PyData) : List (List Int) := ((met bk n k v []).filter fun c => PyData.eqv c.1 g).map fun c => c.2.2
def hereR (k g : PyData) : List (List Int) := if PyData.eqv k g = true then [[]] else []
section
variable {L : PyData → Prop} {bk : List (Str × PyData)} {g : PyData}
theorem roads_fuel {n m : Nat} {k v : PyData} (h : Val L bk n k v) (le : n ≤ m) : roads bk g m k v = roads bk g n k v := by
  unfold roads
  rw [met_fuel h le]
theorem roads_pre (n : Nat) (k v : PyData) (p : List Int) : ((met bk n k v p).filter fun c => PyData.eqv c.1 g).map (fun c => c.2.2) = (roads bk g n k v).map fun r => p ++ r := by
  have e : met bk n k v p = (met bk n k v []).map fun c => (c.1, c.2.1, p ++ c.2.2) := by
    rw [← met_pre, List.append_nil]
  rw [e]
  unfold roads
  rw [List.filter_map, List.map_map, List.map_map]
  rfl
theorem roads_step {n : Nat} {k v : PyData} : roads bk g (n + 1) k v = hereR k g ++ (kidsM bk k v []).flatMap fun c => (roads bk g n c.1 c.2.1).map fun r => c.2.2 ++ r := by
  have e : roads bk g (n + 1) k v = (((k, v, []) :: (kidsM bk k v []).flatMap fun c => met bk n c.1 c.2.1 c.2.2).filter fun c => PyData.eqv c.1 g).map (fun c => c.2.2) := rfl
  rw [e, List.filter_cons]
  have e2 : (((kidsM bk k v []).flatMap fun c => met bk n c.1 c.2.1 c.2.2).filter fun c => PyData.eqv c.1 g).map (fun c => c.2.2) = (kidsM bk k v []).flatMap fun c => (roads bk g n c.1 c.2.1).map fun r => c.2.2 ++ r := by
    rw [List.filter_flatMap, List.map_flatMap]
    exact flatMap_congr' fun c _ => roads_pre n c.1 c.2.1 c.2.2
  unfold hereR
  by_cases q : PyData.eqv k g = true
  · rw [if_pos q, if_pos q, List.map_cons, e2]
    rfl
  · rw [if_neg q, if_neg q, e2]
    rfl
theorem roads_name {n : Nat} {x : Str} {k v : PyData} (h : lookB bk x = some k) : roads bk g (n + 1) (kName x) v = hereR (kName x) g ++ roads bk g n k v := by
  rw [roads_step, kidsM_n h, List.flatMap_cons, List.flatMap_nil, List.append_nil]
  congr 1
  exact List.map_id _
theorem roads_pair {n : Nat} {a b u v : PyData} : roads bk g (n + 1) (kPair a b) (vPair u v) = hereR (kPair a b) g ++ ((roads bk g n a u).map (fun r => 1 :: r) ++ (roads bk g n b v).map (fun r => 2 :: r)) := by
  rw [roads_step]
  show _ ++ List.flatMap _ [(a, u, [1]), (b, v, [2])] = _
  rw [List.flatMap_cons, List.flatMap_cons, List.flatMap_nil, List.append_nil]
  rfl
theorem roads_left {n : Nat} {a b u : PyData} : roads bk g (n + 1) (kEith a b) (vLeft u) = hereR (kEith a b) g ++ (roads bk g n a u).map (fun r => 1 :: r) := by
  rw [roads_step, kidsM_l, List.flatMap_cons, List.flatMap_nil, List.append_nil]
  rfl
theorem roads_right {n : Nat} {a b u : PyData} : roads bk g (n + 1) (kEith a b) (vRight u) = hereR (kEith a b) g ++ (roads bk g n b u).map (fun r => 1 :: r) := by
  rw [roads_step, kidsM_r, List.flatMap_cons, List.flatMap_nil, List.append_nil]
  rfl
theorem roads_one {n : Nat} {w : Str} {v : PyData} : roads bk g (n + 1) (.tuple [.str w]) v = hereR (.tuple [.str w]) g := by
  rw [roads_step]
  show _ ++ List.flatMap _ [] = _
  rw [List.flatMap_nil, List.append_nil]
theorem here_two {w : Str} {a b : PyData} {h : Ho} : hereR (.tuple [.str w, a, b]) (hoD h) = [] := by
  refine if_neg fun z => ?_
  cases h with
  | th =>
    have z : PyData.eqvAll [.str w, a, b] [.str "thing"] = true := z
    simp only [PyData.eqvAll, Bool.and_eq_true, Bool.and_false, Bool.false_eq_true, and_false] at z
  | nm y =>
    have z : PyData.eqvAll [.str w, a, b] [.str "name", .str y] = true := z
    simp only [PyData.eqvAll, Bool.and_eq_true, Bool.and_false, Bool.false_eq_true, and_false] at z
theorem roads_few {n : Nat} {k v : PyData} (h : Val L bk n k v) : (roads bk g n k v).length ≤ n ∧ ∀ r ∈ roads bk g n k v, r.length + 1 ≤ n := by
  obtain ⟨a, b⟩ := met_len (p := []) h
  unfold roads
  refine ⟨?_, fun r mr => ?_⟩
  · rw [List.length_map]
    exact Nat.le_trans (List.length_filter_le _ _) a
  · obtain ⟨c, mc, rfl⟩ := List.mem_map.mp mr
    have := b c (List.mem_filter.mp mc).1
    simpa using this
end
end Toy
set_option Elab.async false
set_option linter.all false
set_option maxRecDepth 100000
set_option maxHeartbeats 4000000
namespace L2
open PySem PySem.Spec PyProof.Rows
def rEqTy : R2 := fun x y H Q => ∃ (d : PyData) (T : String), x = .ty (tyD d) ∧ y = .ty T ∧ (∀ s : Shared, s.TypeIs (.type T) "type") ∧ Q (.bl (decide (tyD d = T))) H
theorem op_eqTyD {X : Cx} : OpR X (compareOp .Eq) rEqTy := by
  intro pins s σ H x y v u Q I rx ry h
  obtain ⟨d, T, rfl, rfl, hT, q⟩ := h
  cases rx
  cases ry
  by_cases h : tyD d = T
  · rw [decide_eq_true h] at q
    subst h
    exact TypeEq.eq_type_same (tyD_meta d) ⟨.bl true, H, I, rfl, q⟩
  · rw [decide_eq_false h] at q
    exact TypeEq.eq_type_other (tyD_meta d) hT (by
      rw [Bool.eq_false_iff]
      intro z
      rw [beq_iff_eq] at z
      injection z with z
      exact h z) ⟨.bl false, H, I, rfl, q⟩
end L2
namespace Toy
open PySem L2 PyProof.Rows
abbrev sWhN : Stmt := top 39
abbrev sEmp : Stmt := top 40
abbrev sRowOf : Stmt := top 44
abbrev sPwi : Stmt := top 43
/-! ### the parts within a value -/
theorem iteY {p : Bool} {A B : Prop} (h : p = true) (a : A) : if p = true then A else B := by rw [if_pos h]; exact a
theorem iteN {p : Bool} {A B : Prop} (h : p = false) (b : B) : if p = true then A else B := by rw [if_neg (by rw [h]; exact Bool.false_ne_true)]; exact b
theorem notTup (ds : List PyData) : (!decide (tyD (.tuple ds) = "tuple")) = false := by
  show (!decide (("tuple" : String) = "tuple")) = false
  decide +kernel
def spLeaf (K : PySem.W.Frag) (L : PyData → Prop) : Sp := fun vs H Q _ => ∃ (v : V) (d : PyData), vs = [v] ∧ Dq K H v d ∧ L d ∧ Q (.bl true) H
def emptyD (d : PyData) : Prop := d = .tuple []
def isW (w : Str) : PyData → Bool
  | .str s => decide (V.str s = V.str w)
  | _ => false
def rowB (w : Str) (m : Int) : List PyData → Bool
  | [] => false
  | d :: r => decide (((d :: r).length : Int) = m) && isW w d
def spRow (K : PySem.W.Frag) : Sp := fun vs H Q _ => ∃ (w : Str) (m : Int) (v : V) (ds : List PyData), vs = [.str w, .int m, v] ∧ 1 ≤ m ∧ Dq K H v (.tuple ds) ∧ Q (.bl (rowB w m ds)) H
def Pr (K : PySem.W.Frag) (H : Hp) (x : V) (c : PyData × PyData) : Prop := ∃ t a b, x = .ref t ∧ H t = some (.tup [a, b]) ∧ Dq K H a c.1 ∧ Dq K H b c.2
def spPwi (K : PySem.W.Frag) (L : PyData → Prop) (g : Addr) : Sp := fun vs H Q _ => ∃ (u v : V) (bk : List (Str × PyData)) (n : Nat) (k d : PyData), vs = [u, v, .ref g] ∧ Dq K H u k ∧ Dq K H v d ∧ Bare k ∧ Val L bk n k d ∧
  ∀ p H' ws, Same H H' → SqX H' p ws → Paired (Pr K H') ws (kidsV k d) → Q (.ref p) H'
section
variable {P : Program} {w : World} {K : PySem.W.Frag} {mg : Str → Option Value} {base : Heap}
theorem scWhN : FnScope ["value"] ["value"] (defScope sWhN) := ⟨rfl, rfl, rfl, by decide +kernel, rfl, by decide +kernel, by decide +kernel⟩
theorem scEmp : FnScope ["value"] ["value"] (defScope sEmp) := ⟨rfl, rfl, rfl, by decide +kernel, rfl, by decide +kernel, by decide +kernel⟩
theorem scRowOf : FnScope ["word", "many", "row"] ["word", "many", "row"] (defScope sRowOf) := ⟨rfl, rfl, rfl, by decide +kernel, rfl, by decide +kernel, by decide +kernel⟩
theorem scPwi : FnScope ["kind", "value", "is_thing", "word"] ["kind", "value", "is_thing"] (defScope sPwi) := ⟨rfl, rfl, rfl, by decide +kernel, rfl, by decide +kernel, by decide +kernel⟩
theorem ok_whole {f : Addr} {fd : FuncData} (F : Fun K "is_whole_number" "is_whole_number" sWhN f fd) (U : Nt mg) (NI : mg "int" = none) : FnOk P w K mg base CX0 1 f fd ["value"] (spLeaf K numOk) := by
  refine F.ok scWhN (fun vs H Q E h => ?_) (fun cdv A outer s H vs Q E hr h => ?_)
  · obtain ⟨v, d, rfl, _⟩ := h
    rfl
  obtain ⟨v, d, rfl, hd, ⟨i, rfl, _⟩, q⟩ := h
  refine ⟨_, (pss_one (ps_ret (pe_cmpR op_eqTyD (pe_callTy call_tyD rfl U.type (by decide +kernel) (pa_cons (pv 0) pa_nil)) (pe_bltn (v := .ty "int") rfl NI (by decide +kernel) rfl (by decide) (by decide)) (nomark _)))), ?_⟩
  exact ⟨_, rfl, _, _, rfl, hd, _, "int", rfl, rfl, TypeEq.meta_int, q⟩
theorem ok_empty {f : Addr} {fd : FuncData} (F : Fun K "is_empty" "is_empty" sEmp f fd) (T : Nk mg) (U : Nt mg) (N : Nu mg) : FnOk P w K mg base CX0 1 f fd ["value"] (spLeaf K emptyD) := by
  refine F.ok scEmp (fun vs H Q E h => ?_) (fun cdv A outer s H vs Q E hr h => ?_)
  · obtain ⟨v, d, rfl, _⟩ := h
    rfl
  obtain ⟨v, d, rfl, hd, rfl, q⟩ := h
  refine ⟨_, (pss_one (ps_ret (pe_and (pe_cmpR op_eqTyD (pe_callTy call_tyD rfl U.type (by decide +kernel) (pa_cons (pv 0) pa_nil)) (pe_bltn (v := .ty "tuple") rfl N.tuple (by decide +kernel) rfl (by decide) (by decide)) (nomark _)) (pe_one (pe_cmpR op_eq (pe_callB call_len_seq rfl T.len PySem.boot_len (pa_cons (pv 0) pa_nil)) pe_int (nomark _)))))), ?_⟩
  obtain ⟨a, xs, rfl, hx, hA⟩ := dq_tuple hd
  obtain rfl := dqAll_nil hA
  refine ⟨_, rfl, _, _, rfl, hd, _, "tuple", rfl, rfl, TypeEq.meta_tuple, _, rfl, ?_⟩
  refine iteT ⟨_, rfl, a, _, rfl, .inr hx, rfl, q⟩
theorem ok_rowof {f : Addr} {fd : FuncData} (F : Fun K "is_row_of" "is_row_of" sRowOf f fd) (T : Nk mg) (U : Nt mg) : FnOk P w K mg base CX0 1 f fd ["word", "many", "row"] (spRow K) := by
  refine F.ok scRowOf (fun vs H Q E h => ?_) (fun cdv A outer s H vs Q E hr h => ?_)
  · obtain ⟨w, m, v, ds, rfl, _⟩ := h
    rfl
  obtain ⟨w, m, v, ds, rfl, m1, hd, q⟩ := h
  refine ⟨_, (pss_one (ps_ret (pe_and (pe_cmpR op_eq (pe_callB call_len_seq rfl T.len PySem.boot_len (pa_cons (pv 2) pa_nil)) (pv 1) (nomark _)) (pe_and (pe_cmpR op_eqTyD (pe_callTy call_tyD rfl U.type (by decide +kernel) (pa_cons (pe_ix ix_tup (pv 2) pe_int (fun _ _ => rfl)) pa_nil)) (pe_bltn (v := .ty "str") rfl U.str (by decide +kernel) rfl (by decide) (by decide)) (nomark _)) (pe_one (pe_cmpR op_eq (pe_ix ix_tup (pv 2) pe_int (fun _ _ => rfl)) (pv 0) (nomark _))))))), ?_⟩
  obtain ⟨a, xs, rfl, hx, hA⟩ := dq_tuple hd
  have hl := hA.len
  refine ⟨_, rfl, a, _, rfl, .inr hx, _, rfl, rfl, _, rfl, ?_⟩
  cases ds with
  | nil =>
    obtain rfl := dqAll_nil hA
    refine ite2 (fun g => ?_) (fun g => ?_)
    · have z := num_eq (n := 0) g
      omega
    · exact q
  | cons d0 r =>
    obtain ⟨x0, rs, rfl, h0, hR⟩ := dqAll_cons hA
    have el : decide (V.int ((x0 :: rs).length : Int) = V.int m) = decide (((d0 :: r).length : Int) = m) := by
      rw [hl]
      by_cases z : ((d0 :: r).length : Int) = m
      · rw [decide_eq_true z, decide_eq_true (by rw [z])]
      · rw [decide_eq_false z, decide_eq_false (fun q => z (by injection q))]
    rw [el]
    have q : Q (.bl (decide (((d0 :: r).length : Int) = m) && isW w d0)) H := q
    refine ite2 (fun g => ?_) (fun g => ?_)
    · rw [g, Bool.true_and] at q
      refine ⟨_, rfl, a, _, 0, x0, rfl, rfl, hx, atI_nat (j := 0) rfl, _, _, rfl, h0, _, "str", rfl, rfl, TypeEq.meta_str, _, rfl, ?_⟩
      refine ite2 (fun t => ?_) (fun t => ?_)
      · obtain ⟨s, rfl⟩ := str_of (of_decide_eq_true t)
        obtain rfl := dq_str h0
        exact ⟨_, rfl, a, _, 0, _, rfl, rfl, hx, atI_nat (j := 0) rfl, _, rfl, rfl, q⟩
      · have t' := Bool.eq_false_iff.mpr t
        have e : isW w d0 = false := by
          cases d0 <;> first | rfl | exact absurd rfl (of_decide_eq_false t')
        rw [e] at q
        exact q
    · have g' := Bool.eq_false_iff.mpr g
      rw [g', Bool.false_and] at q
      exact q
theorem ok_within {f gL gE gR : Addr} {fd dL dE dR : FuncData} {L : PyData → Prop} {xl : Str} {kL : Nat} (hkL : kL ≤ 1) (F : Fun K "parts_within" "parts_within" sPwi f fd) (U : Nt mg) (N : Nu mg) (LF : Gv P w K mg base kL xl gL dL ["value"] (spLeaf K L)) (EM : Gv P w K mg base 1 "is_empty" gE dE ["value"] (spLeaf K emptyD)) (RO : Gv P w K mg base 1 "is_row_of" gR dR ["word", "many", "row"] (spRow K)) : FnOk P w K mg base CX0 2 f fd ["kind", "value", "is_thing"] (spPwi K L gL) := by
  refine F.ok scPwi (fun vs H Q E h => ?_) (fun cdv A outer s H vs Q E hr h => ?_)
  · obtain ⟨u, v, bk, n, k, d, rfl, _⟩ := h
    rfl
  obtain ⟨u, v, bk, n, k, d, rfl, hu, hv, bare, val, q⟩ := h
  have hr1 : Room 1 (A.deeper _) := hr
  have hrL : Room kL (A.deeper _) := hr.mono hkL
  refine ⟨_, (pss_cons (ps_set (i := 3) scPwi.nd rfl (.inl rfl) (pe_ix ix_tup (pv 0) pe_int (fun _ _ => rfl)))
    (pss_cons (ps_if (pt_cmpR op_eq (pv 3) pe_str (nomark _)) (pss_one (ps_ret (pe_ifExp (pt_val (pe_callL (i := 2) LF.ok hrL (by rfl) (by first | exact Or.inl rfl | exact Or.inr (Or.inl rfl) | exact Or.inr (Or.inr rfl)) LF.k LF.b .nil pass0 (pa_cons (pv 1) pa_nil))) (pe_tupX pa_nil) pe_non))) pss_nil)
    (pss_cons (ps_if (PW.pt (pw_or (pt_cmpR op_eq (pv 3) pe_str (nomark _)) (pw_or1 (pt_cmpR op_neTy (pe_callTy call_tyD rfl U.type (by decide +kernel) (pa_cons (pv 1) pa_nil)) (pe_bltn (v := .ty "tuple") rfl N.tuple (by decide +kernel) rfl (by decide) (by decide)) (nomark _))))) (pss_one (ps_ret pe_non)) pss_nil)
    (pss_cons (ps_if (pt_cmpR op_eq (pv 3) pe_str (nomark _)) (pss_one (ps_ret (pe_ifExp (pt_val (pe_call EM.ok hr1 rfl EM.m EM.k EM.b .nil pass0 (pa_cons (pv 1) pa_nil))) (pe_tupX pa_nil) pe_non))) pss_nil)
    (pss_cons (ps_if (PW.pt (pw_and (pt_cmpR op_eq (pv 3) pe_str (nomark _)) (pw_and1 (pt_val (pe_call RO.ok hr1 rfl RO.m RO.k RO.b .nil pass0 (pa_cons pe_str (pa_cons pe_int (pa_cons (pv 1) pa_nil)))))))) (pss_one (ps_ret (pe_tupX (pa_cons (pe_tup (pa_cons (pe_ix ix_tup (pv 0) pe_int (fun _ _ => rfl)) (pa_cons (pe_ix ix_tup (pv 1) pe_int (fun _ _ => rfl)) pa_nil))) (pa_cons (pe_tup (pa_cons (pe_ix ix_tup (pv 0) pe_int (fun _ _ => rfl)) (pa_cons (pe_ix ix_tup (pv 1) pe_int (fun _ _ => rfl)) pa_nil))) pa_nil))))) pss_nil)
    (pss_cons (ps_if (PW.pt (pw_and (pt_cmpR op_eq (pv 3) pe_str (nomark _)) (pw_and1 (pt_val (pe_call RO.ok hr1 rfl RO.m RO.k RO.b .nil pass0 (pa_cons pe_str (pa_cons pe_int (pa_cons (pv 1) pa_nil)))))))) (pss_one (ps_ret (pe_tupX (pa_cons (pe_tup (pa_cons (pe_ix ix_tup (pv 0) pe_int (fun _ _ => rfl)) (pa_cons (pe_ix ix_tup (pv 1) pe_int (fun _ _ => rfl)) pa_nil))) pa_nil)))) pss_nil)
    (pss_cons (ps_if (PW.pt (pw_and (pt_cmpR op_eq (pv 3) pe_str (nomark _)) (pw_and1 (pt_val (pe_call RO.ok hr1 rfl RO.m RO.k RO.b .nil pass0 (pa_cons pe_str (pa_cons pe_int (pa_cons (pv 1) pa_nil)))))))) (pss_one (ps_ret (pe_tupX (pa_cons (pe_tup (pa_cons (pe_ix ix_tup (pv 0) pe_int (fun _ _ => rfl)) (pa_cons (pe_ix ix_tup (pv 1) pe_int (fun _ _ => rfl)) pa_nil))) pa_nil)))) pss_nil)
    (pss_one (ps_ret pe_non))))))))), ?_⟩
  have z3 : ∀ {k : Nat}, k ≤ 20 → k ≤ sizeLine := fun h => Nat.le_trans h (by decide)
  cases val with
  | thing l =>
    obtain ⟨ad, xs, rfl, hx, hA⟩ := dq_tuple hu
    obtain ⟨x0, rs, rfl, g0, hA⟩ := dqAll_cons hA
    cases g0
    refine ⟨_, rfl, ad, _, 0, _, rfl, rfl, hx, atI_nat (j := 0) rfl, ?_⟩
    refine ⟨_, rfl, rfl, _, rfl, iteY (by decide +kernel) ?_⟩
    refine ⟨rfl, _, rfl, v, d, rfl, hv, l, _, rfl, iteT ⟨z3 (by show 0 ≤ 20; decide), fun p o hp hd hs => ?_⟩⟩
    exact q p _ [] (same_new hp _) ⟨o, upd_same, hd, hs⟩ .nil
  | unit =>
    obtain ⟨ad, xs, rfl, hx, hA⟩ := dq_tuple hu
    obtain ⟨x0, rs, rfl, g0, hA⟩ := dqAll_cons hA
    cases g0
    refine ⟨_, rfl, ad, _, 0, _, rfl, rfl, hx, atI_nat (j := 0) rfl, ?_⟩
    refine ⟨_, rfl, rfl, _, rfl, iteN (by decide +kernel) ?_⟩
    refine ⟨_, rfl, rfl, _, rfl, iteN (by decide +kernel) ⟨_, rfl, _, _, rfl, hv, _, "tuple", rfl, rfl, TypeEq.meta_tuple, _, rfl, iteN (notTup _) ?_⟩⟩
    refine ⟨_, rfl, rfl, _, rfl, iteY (by decide +kernel) ?_⟩
    refine ⟨_, rfl, v, _, rfl, hv, rfl, _, rfl, iteT ⟨z3 (by show 0 ≤ 20; decide), fun p o hp hd hs => ?_⟩⟩
    exact q p _ [] (same_new hp _) ⟨o, upd_same, hd, hs⟩ .nil
  | name _ _ => exact (bare_name bare).elim
  | @pair n m p a b d1 d2 _ _ _ =>
    obtain ⟨ad, xs, rfl, hx, hA⟩ := dq_tuple hu
    obtain ⟨x0, rs, rfl, g0, hA⟩ := dqAll_cons hA
    obtain ⟨x1, rs, rfl, g1, hA⟩ := dqAll_cons hA
    obtain ⟨x2, rs, rfl, g2, hA⟩ := dqAll_cons hA
    cases g0
    obtain ⟨av, ys, rfl, hy, hB⟩ := dq_tuple hv
    obtain ⟨y0, ts, rfl, j0, hB⟩ := dqAll_cons hB
    obtain ⟨y1, ts, rfl, j1, hB⟩ := dqAll_cons hB
    obtain ⟨y2, ts, rfl, j2, hB⟩ := dqAll_cons hB
    refine ⟨_, rfl, ad, _, 0, _, rfl, rfl, hx, atI_nat (j := 0) rfl, ?_⟩
    refine ⟨_, rfl, rfl, _, rfl, iteN (by decide +kernel) ?_⟩
    refine ⟨_, rfl, rfl, _, rfl, iteN (by decide +kernel) ⟨_, rfl, _, _, rfl, hv, _, "tuple", rfl, rfl, TypeEq.meta_tuple, _, rfl, iteN (notTup _) ?_⟩⟩
    refine ⟨_, rfl, rfl, _, rfl, iteN (by decide +kernel) ?_⟩
    refine ⟨_, rfl, rfl, _, rfl, iteY (by decide +kernel) ⟨_, rfl, "pair", 3, _, _, rfl, by decide, hv, _, rfl, iteY (by show (decide ((3 : Int) = 3) && decide (V.str "pair" = V.str "pair")) = true; decide +kernel) ?_⟩⟩
    refine ⟨_, rfl, ad, _, 1, _, rfl, rfl, hx, atI_nat (j := 1) rfl, _, rfl, av, _, 1, _, rfl, rfl, hy, atI_nat (j := 1) rfl, z3 (by show 2 ≤ 20; decide), fun t1 h1 => ?_⟩
    have s1 := same_new h1 (.tup [x1, y1])
    refine ⟨_, rfl, ad, _, 2, _, rfl, rfl, s1.seqT hx, atI_nat (j := 2) rfl, _, rfl, av, _, 2, _, rfl, rfl, s1.seqT hy, atI_nat (j := 2) rfl, z3 (by show 2 ≤ 20; decide), fun t2 h2 => ?_⟩
    have s2 := same_new h2 (.tup [x2, y2])
    refine ⟨z3 (by show 2 ≤ 20; decide), fun p o hp hd hs => ?_⟩
    have s3 := same_new hp (.frz o (.tup [.ref t1, .ref t2]))
    have s13 := s1.trans (s2.trans s3)
    exact q p _ [.ref t1, .ref t2] s13 ⟨o, upd_same, hd, hs⟩ (.cons ⟨t1, x1, y1, rfl, s3 _ _ (s2 _ _ upd_same), Dq.mono s13 _ _ g1, Dq.mono s13 _ _ j1⟩ (.cons ⟨t2, x2, y2, rfl, s3 _ _ upd_same, Dq.mono s13 _ _ g2, Dq.mono s13 _ _ j2⟩ .nil))
  | @left n a b d1 _ =>
    obtain ⟨ad, xs, rfl, hx, hA⟩ := dq_tuple hu
    obtain ⟨x0, rs, rfl, g0, hA⟩ := dqAll_cons hA
    obtain ⟨x1, rs, rfl, g1, hA⟩ := dqAll_cons hA
    obtain ⟨x2, rs, rfl, g2, hA⟩ := dqAll_cons hA
    cases g0
    obtain ⟨av, ys, rfl, hy, hB⟩ := dq_tuple hv
    obtain ⟨y0, ts, rfl, j0, hB⟩ := dqAll_cons hB
    obtain ⟨y1, ts, rfl, j1, hB⟩ := dqAll_cons hB
    rw [kids_l] at q
    refine ⟨_, rfl, ad, _, 0, _, rfl, rfl, hx, atI_nat (j := 0) rfl, ?_⟩
    refine ⟨_, rfl, rfl, _, rfl, iteN (by decide +kernel) ?_⟩
    refine ⟨_, rfl, rfl, _, rfl, iteN (by decide +kernel) ⟨_, rfl, _, _, rfl, hv, _, "tuple", rfl, rfl, TypeEq.meta_tuple, _, rfl, iteN (notTup _) ?_⟩⟩
    refine ⟨_, rfl, rfl, _, rfl, iteN (by decide +kernel) ?_⟩
    refine ⟨_, rfl, rfl, _, rfl, iteN (by decide +kernel) (iteF ?_)⟩
    refine ⟨_, rfl, rfl, _, rfl, iteY (by decide +kernel) ⟨_, rfl, "left", 2, _, _, rfl, by decide, hv, _, rfl, iteY (by show (decide ((2 : Int) = 2) && decide (V.str "left" = V.str "left")) = true; decide +kernel) ?_⟩⟩
    refine ⟨_, rfl, ad, _, 1, _, rfl, rfl, hx, atI_nat (j := 1) rfl, _, rfl, av, _, 1, _, rfl, rfl, hy, atI_nat (j := 1) rfl, z3 (by show 2 ≤ 20; decide), fun t1 h1 => ?_⟩
    have s1 := same_new h1 (.tup [x1, y1])
    refine ⟨z3 (by show 1 ≤ 20; decide), fun p o hp hd hs => ?_⟩
    have s3 := same_new hp (.frz o (.tup [.ref t1]))
    have s13 := s1.trans s3
    exact q p _ [.ref t1] s13 ⟨o, upd_same, hd, hs⟩ (.cons ⟨t1, x1, y1, rfl, s3 _ _ upd_same, Dq.mono s13 _ _ g1, Dq.mono s13 _ _ j1⟩ .nil)
  | @right n a b d1 _ =>
    obtain ⟨ad, xs, rfl, hx, hA⟩ := dq_tuple hu
    obtain ⟨x0, rs, rfl, g0, hA⟩ := dqAll_cons hA
    obtain ⟨x1, rs, rfl, g1, hA⟩ := dqAll_cons hA
    obtain ⟨x2, rs, rfl, g2, hA⟩ := dqAll_cons hA
    cases g0
    obtain ⟨av, ys, rfl, hy, hB⟩ := dq_tuple hv
    obtain ⟨y0, ts, rfl, j0, hB⟩ := dqAll_cons hB
    obtain ⟨y1, ts, rfl, j1, hB⟩ := dqAll_cons hB
    rw [kids_r] at q
    refine ⟨_, rfl, ad, _, 0, _, rfl, rfl, hx, atI_nat (j := 0) rfl, ?_⟩
    refine ⟨_, rfl, rfl, _, rfl, iteN (by decide +kernel) ?_⟩
    refine ⟨_, rfl, rfl, _, rfl, iteN (by decide +kernel) ⟨_, rfl, _, _, rfl, hv, _, "tuple", rfl, rfl, TypeEq.meta_tuple, _, rfl, iteN (notTup _) ?_⟩⟩
    refine ⟨_, rfl, rfl, _, rfl, iteN (by decide +kernel) ?_⟩
    refine ⟨_, rfl, rfl, _, rfl, iteN (by decide +kernel) (iteF ?_)⟩
    refine ⟨_, rfl, rfl, _, rfl, iteY (by decide +kernel) ⟨_, rfl, "left", 2, _, _, rfl, by decide, hv, _, rfl, iteN (by show (decide ((2 : Int) = 2) && decide (V.str "right" = V.str "left")) = false; decide +kernel) ?_⟩⟩
    refine ⟨_, rfl, rfl, _, rfl, iteY (by decide +kernel) ⟨_, rfl, "right", 2, _, _, rfl, by decide, hv, _, rfl, iteY (by show (decide ((2 : Int) = 2) && decide (V.str "right" = V.str "right")) = true; decide +kernel) ?_⟩⟩
    refine ⟨_, rfl, ad, _, 2, _, rfl, rfl, hx, atI_nat (j := 2) rfl, _, rfl, av, _, 1, _, rfl, rfl, hy, atI_nat (j := 1) rfl, z3 (by show 2 ≤ 20; decide), fun t1 h1 => ?_⟩
    have s1 := same_new h1 (.tup [x2, y1])
    refine ⟨z3 (by show 1 ≤ 20; decide), fun p o hp hd hs => ?_⟩
    have s3 := same_new hp (.frz o (.tup [.ref t1]))
    have s13 := s1.trans s3
    exact q p _ [.ref t1] s13 ⟨o, upd_same, hd, hs⟩ (.cons ⟨t1, x2, y1, rfl, s3 _ _ upd_same, Dq.mono s13 _ _ g2, Dq.mono s13 _ _ j1⟩ .nil)
end
end Toy
set_option Elab.async false
set_option linter.all false
set_option maxRecDepth 100000
set_option maxHeartbeats 4000000
namespace Toy
open PySem L2 PyProof.Rows
abbrev sUnf : Stmt := top 42
abbrev sHk : Stmt := top 41
/-! ### all parts of a value looked at -/
theorem paired_app {α β : Type} {R : α → β → Prop} : ∀ {xs xs' : List α} {ys ys' : List β}, Paired R xs ys → Paired R xs' ys' → Paired R (xs ++ xs') (ys ++ ys')
  | _, _, _, _, .nil, s => s
  | _, _, _, _, .cons r t, s => .cons r (paired_app t s)
theorem paired_rev {α β : Type} {R : α → β → Prop} : ∀ {xs : List α} {ys : List β}, Paired R xs ys → Paired R xs.reverse ys.reverse
  | _, _, .nil => .nil
  | _, _, .cons r t => by
    rw [List.reverse_cons, List.reverse_cons]
    exact paired_app (paired_rev t) (.cons r .nil)
theorem sum_app (a b : List Nat) : (a ++ b).sum = a.sum + b.sum := by
  induction a with
  | nil => rw [List.nil_append, List.sum_nil]; omega
  | cons x a ih => rw [List.cons_append, List.sum_cons, List.sum_cons, ih]; omega
theorem sum_rev (a : List Nat) : a.reverse.sum = a.sum := by
  induction a with
  | nil => rfl
  | cons x a ih => rw [List.reverse_cons, sum_app, ih, List.sum_cons, List.sum_cons, List.sum_nil]; omega
theorem fuel_len {β : Type} {R : Nat → β → Prop} (h : ∀ m c, R m c → 1 ≤ m) : ∀ {fs : List Nat} {cs : List β}, Paired R fs cs → cs.length ≤ fs.sum
  | _, _, .nil => Nat.le_refl _
  | _, _, .cons r t => by
    have := h _ _ r
    have := fuel_len h t
    rw [List.length_cons, List.sum_cons]
    omega
theorem paired_length {α β : Type} {R : α → β → Prop} : ∀ {xs : List α} {ys : List β}, Paired R xs ys → xs.length = ys.length
  | _, _, .nil => rfl
  | _, _, .cons _ t => congrArg Nat.succ (paired_length t)
theorem paired_nilR {α β : Type} {R : α → β → Prop} {xs : List α} (h : Paired R xs ([] : List β)) : xs = [] := by cases h; rfl
theorem paired_nilL {α β : Type} {R : α → β → Prop} {ys : List β} (h : Paired R ([] : List α) ys) : ys = [] := by cases h; rfl
theorem paired_consL {α β : Type} {R : α → β → Prop} {x : α} {xs : List α} {ys : List β} (h : Paired R (x :: xs) ys) : ∃ y r, ys = y :: r ∧ R x y ∧ Paired R xs r := by
  cases h with
  | cons a b => exact ⟨_, _, rfl, a, b⟩
theorem paired_consR {α β : Type} {R : α → β → Prop} {xs : List α} {y : β} {ys : List β} (h : Paired R xs (y :: ys)) : ∃ x r, xs = x :: r ∧ R x y ∧ Paired R r ys := by
  cases h with
  | cons a b => exact ⟨_, _, rfl, a, b⟩
theorem paired_impR {α β : Type} {R R' : α → β → Prop} {P' : β → Prop} : ∀ {xs : List α} {ys : List β}, (∀ a b, P' b → R a b → R' a b) → (∀ b ∈ ys, P' b) → Paired R xs ys → Paired R' xs ys
  | _, _, _, _, .nil => .nil
  | _, _, h, p, .cons r t => .cons (h _ _ (p _ List.mem_cons_self) r) (paired_impR h (fun b m => p b (List.mem_cons_of_mem _ m)) t)
theorem kidsV_val {L : PyData → Prop} {bk : List (Str × PyData)} {n : Nat} {k v : PyData} (h : Val L bk n k v) (b : Bare k) : ∃ fs : List Nat, fs.sum + 1 ≤ n ∧ Paired (fun m (c : PyData × PyData) => Val L bk m c.1 c.2) fs (kidsV k v) := by
  cases h with
  | thing l => exact ⟨[], by simp, .nil⟩
  | unit => exact ⟨[], by simp, .nil⟩
  | name _ _ => exact (bare_name b).elim
  | @pair n m q a b u v ga gb le => exact ⟨[m, q], by simp only [List.sum_cons, List.sum_nil]; omega, .cons ga (.cons gb .nil)⟩
  | @left n a b u g =>
    rw [kids_l]
    exact ⟨[n], by simp, .cons g .nil⟩
  | @right n a b u g =>
    rw [kids_r]
    exact ⟨[n], by simp, .cons g .nil⟩
abbrev plC (c : PyData × PyData) : Prop := plB c.1 = true ∧ plB c.2 = true
theorem pl_row {w : Str} {a b : PyData} (h : plB (.tuple [.str w, a, b]) = true) : plB a = true ∧ plB b = true := by
  have h' : (plB (.str w) && (plB a && (plB b && true))) = true := h
  simp only [Bool.and_eq_true] at h'
  exact ⟨h'.2.1, h'.2.2.1⟩
theorem pl_row1 {w : Str} {a : PyData} (h : plB (.tuple [.str w, a]) = true) : plB a = true := by
  have h' : (plB (.str w) && (plB a && true)) = true := h
  simp only [Bool.and_eq_true] at h'
  exact h'.2.1
theorem kidsV_pl {L : PyData → Prop} {bk : List (Str × PyData)} {n : Nat} {k v : PyData} (h : Val L bk n k v) (br : Bare k) (pk : plB k = true) (pv' : plB v = true) : ∀ c ∈ kidsV k v, plC c := by
  cases h with
  | thing l => exact fun _ m => nomatch m
  | unit => exact fun _ m => nomatch m
  | name _ _ => exact (bare_name br).elim
  | @pair n m q a b u v ga gb le =>
    intro c mc
    rcases List.mem_cons.mp (show c ∈ [(a, u), (b, v)] from mc) with e | mc
    · rw [e]; exact ⟨(pl_row pk).1, (pl_row pv').1⟩
    · rw [List.mem_singleton.mp mc]; exact ⟨(pl_row pk).2, (pl_row pv').2⟩
  | @left n a b u g =>
    rw [kids_l]
    intro c mc
    rw [List.mem_singleton.mp mc]
    exact ⟨(pl_row pk).1, pl_row1 pv'⟩
  | @right n a b u g =>
    rw [kids_r]
    intro c mc
    rw [List.mem_singleton.mp mc]
    exact ⟨(pl_row pk).2, pl_row1 pv'⟩
/-- all kinds of the book are texts and tuples -/
def BkP (bk : List (Str × PyData)) : Prop := ∀ x k, lookB bk x = some k → plB k = true
theorem Hops.pl {bk : List (Str × PyData)} (B : BkP bk) {m : Nat} {k k' : PyData} (h : Hops bk m k k') (p : plB k = true) : plB k' = true := by
  induction h with
  | stop _ => exact p
  | step l _ ih => exact ih (B _ _ l)
theorem Pr.ts {K : PySem.W.Frag} {H H' : Hp} (e : TS H H') {x : V} {c : PyData × PyData} (p : plC c) (h : Pr K H x c) : Pr K H' x c := by
  obtain ⟨t, a, b, ex, ht, ha, hb⟩ := h
  exact ⟨t, a, b, ex, e.t _ _ ht, Dq.ts e _ _ p.1 ha, Dq.ts e _ _ p.2 hb⟩
theorem prs_ts {K : PySem.W.Frag} {H H' : Hp} (e : TS H H') : ∀ {ws : List V} {st : List (PyData × PyData)}, (∀ c ∈ st, plC c) → Paired (Pr K H) ws st → Paired (Pr K H') ws st
  | _, _, _, .nil => .nil
  | _, _, p, .cons r t => .cons (Pr.ts e (p _ List.mem_cons_self) r) (prs_ts e (fun c m => p c (List.mem_cons_of_mem _ m)) t)
def spUnf (K : PySem.W.Frag) : Sp := fun vs H Q _ => ∃ (t : Addr) (u : V) (bk : List (Str × PyData)) (m : Nat) (k k' : PyData), vs = [.ref t, u] ∧ Tab K H t bk ∧ bk.length ≤ 1000 ∧ Dq K H u k ∧ Hops bk m k k' ∧ ∀ u', Dq K H u' k' → Q u' H
def spHk (K : PySem.W.Frag) (L : PyData → Prop) (g : Addr) : Sp := fun vs H Q _ => ∃ (t : Addr) (u v : V) (bk : List (Str × PyData)) (n : Nat) (k d : PyData), vs = [.ref t, u, v, .ref g] ∧ Tab K H t bk ∧ bk.length ≤ 1000 ∧ BkP bk ∧ Dq K H u k ∧ Dq K H v d ∧ plC (k, d) ∧ Val L bk n k d ∧ n ≤ 1000 ∧
  ∀ H', Same H H' → Q (.bl true) H'
section
variable {P : Program} {w : World} {K : PySem.W.Frag} {mg : Str → Option Value} {base : Heap}
theorem scUnf : FnScope ["table", "kind", "_"] ["table", "kind"] (defScope sUnf) := ⟨rfl, rfl, rfl, by decide +kernel, rfl, by decide +kernel, by decide +kernel⟩
theorem scHk : FnScope ["table", "kind", "value", "is_thing", "waiting", "part_kind", "part", "inner"] ["table", "kind", "value", "is_thing"] (defScope sHk) := ⟨rfl, rfl, rfl, by decide +kernel, rfl, by decide +kernel, by decide +kernel⟩
theorem ok_unfolded {f : Addr} {fd : FuncData} (F : Fun K "unfolded" "unfolded" sUnf f fd) (R : Nr mg) (LN : mg "len" = none) (NC : Nc K mg) : FnOk P w K mg base CX0 1 f fd ["table", "kind"] (spUnf K) := by
  refine F.ok scUnf (fun vs H Q E h => ?_) (fun cdv A outer s H vs Q E hr h => ?_)
  · obtain ⟨t, u, bk, m, k, k', rfl, _⟩ := h
    rfl
  obtain ⟨t, u, bk, m, k, k', rfl, tb, few, hu, hp, q⟩ := h
  have hu1 := Nat.lt_of_le_of_lt (Nat.add_le_add_left (by decide : 1 ≤ 64) _) hr.units
  obtain ⟨aN, hN, _⟩ := NC.none
  refine ⟨_, (pss_cons (ps_for PassesOwn.never rfl (pi_range1 (by rfl) R.range (pa_cons (pe_op op_add (pe_callB call_lenD rfl LN PySem.boot_len (pa_cons (pv 0) pa_nil)) pe_int) pa_nil)) (pg_name (i := 2) scUnf.nd rfl (.inl rfl)) (pss_cons (ps_if (pt_cmpR op_ne (pe_ix ix_tup (pv 1) pe_int (fun _ _ => rfl)) pe_str (nomark _)) (pss_one (ps_ret (pv 1))) pss_nil)
    (pss_one (ps_set (i := 1) scUnf.nd rfl (.inl rfl) (pe_dget hu1 (pv 0) (pe_ix ix_tup (pv 1) pe_int (fun _ _ => rfl)) (fun _ _ => rfl))))))
    (pss_one (ps_ret (pe_glob (v := .ref aN) rfl hN rfl)))), ?_⟩
  obtain ⟨kvs, ht, pr⟩ := id tb
  have lk := pr.length
  have hf := hp.few
  refine ⟨_, rfl, t, kvs, rfl, ht, _, _, rfl, rfl, kvs.length + 1, rfl, by omega, by omega, ?_⟩
  refine for_range (lo := 0) (n := kvs.length + 1) (fun i σ H' => ∃ ui ki c j, σ = [some (.ref t), some ui, c] ∧ H' = H ∧ Dq K H ui ki ∧ Hops bk j ki k' ∧ j + i = m) ⟨u, k, none, m, rfl, rfl, hu, hp, rfl⟩ ?_ ?_
  · rintro i σ H' hi ⟨ui, ki, c, j, rfl, rfl, hui, hpi, ej⟩
    cases hpi with
    | stop b =>
      obtain ⟨wd, r, rfl, nw⟩ := b
      obtain ⟨ad, xs, rfl, hx, hA⟩ := dq_tuple hui
      obtain ⟨x0, rs, rfl, g0, hA⟩ := dqAll_cons hA
      cases g0
      refine ⟨_, rfl, ad, _, 0, _, rfl, rfl, hx, atI_nat (j := 0) rfl, rfl, _, rfl, iteY ?_ ?_⟩
      · rw [decide_eq_false (fun z => nw (by injection z))]
        rfl
      · exact ⟨_, rfl, q _ hui⟩
    | @step m' x k1 _ l g =>
      obtain ⟨ad, xs, rfl, hx, hA⟩ := dq_tuple hui
      obtain ⟨x0, rs, rfl, g0, hA⟩ := dqAll_cons hA
      obtain ⟨x1, rs, rfl, g1, hA⟩ := dqAll_cons hA
      cases g0
      cases g1
      refine ⟨_, rfl, ad, _, 0, _, rfl, rfl, hx, atI_nat (j := 0) rfl, rfl, _, rfl, iteN (by decide +kernel) ?_⟩
      rcases tb.get x with ⟨_, z⟩ | ⟨v1, d1, gk, z, D1⟩
      · rw [l] at z
        cases z
      · rw [l] at z
        cases z
        exact ⟨_, rfl, _, rfl, ad, _, 1, _, rfl, rfl, hx, atI_nat (j := 1) rfl, t, v1, rfl, gk, v1, k1, _, m', rfl, rfl, D1, g, by omega⟩
  · rintro σ H' ⟨ui, ki, c, j, rfl, rfl, hui, hpi, ej⟩
    omega
theorem ok_haskind {f gU gW gL : Addr} {fd dU dW : FuncData} {L : PyData → Prop} (F : Fun K "has_kind" "has_kind" sHk f fd) (UN : Gv P w K mg base 1 "unfolded" gU dU ["table", "kind"] (spUnf K)) (PW : Gv P w K mg base 2 "parts_within" gW dW ["kind", "value", "is_thing"] (spPwi K L gL)) : FnOk P w K mg base CX0 3 f fd ["table", "kind", "value", "is_thing"] (spHk K L gL) := by
  refine F.ok scHk (fun vs H Q E h => ?_) (fun cdv A outer s H vs Q E hr h => ?_)
  · obtain ⟨t, u, v, bk, n, k, d, rfl, _⟩ := h
    rfl
  obtain ⟨t, u, v, bk, n, k, d, rfl, tb, few, BP, hu, hv, pc, val, nn, q⟩ := h
  have hr1 : Room 1 (A.deeper _) := hr.mono (by omega)
  have hr2 : Room 2 (A.deeper _) := hr
  refine ⟨_, (pss_cons (ps_set (i := 4) scHk.nd rfl (.inl rfl) (pe_lst (pa_cons (pe_tup (pa_cons (pv 1) (pa_cons (pv 2) pa_nil))) pa_nil)))
    (pss_cons (ps_while PassesOwn.never (pt_truth (pv 4) (by intro _; rfl)) (pss_cons (ps_asg (pe_bm0 PySem.F.plainAttrs_list PySem.F.slot_list_pop PySem.F.type_list_pop mt_pop (pv 4)) (pg_tup rfl (pgs_cons (pg_name (i := 5) scHk.nd rfl (.inl rfl)) (pgs_cons (pg_name (i := 6) scHk.nd rfl (.inl rfl)) pgs_nil))))
    (pss_cons (ps_set (i := 7) scHk.nd rfl (.inl rfl) (pe_call PW.ok hr2 rfl PW.m PW.k PW.b .nil pass0 (pa_cons (pe_call UN.ok hr1 rfl UN.m UN.k UN.b .nil pass0 (pa_cons (pv 0) (pa_cons (pv 5) pa_nil))) (pa_cons (pv 6) (pa_cons (pv 3) pa_nil)))))
    (pss_cons (ps_if (pt_cmpR op_isN (pv 7) pe_non (nomark _)) (pss_one (ps_ret pe_bl)) pss_nil)
    (pss_one (ps_expr (pe_bm PySem.F.plainAttrs_list PySem.F.slot_list_extend PySem.F.type_list_extend mt_extendT (pv 4) (pa_cons (pv 7) pa_nil))))))))
    (pss_one (ps_ret pe_bl)))), ?_⟩
  have z3 : ∀ {k : Nat}, k ≤ 5000 → k ≤ sizeLine := fun h => Nat.le_trans h (by decide)
  refine ⟨_, rfl, _, rfl, z3 (by show 2 ≤ 5000; decide), fun t0 ht0 => ⟨z3 (by show 1 ≤ 5000; decide), fun wa hwa => ?_⟩⟩
  have s1 := same_new ht0 (.tup [u, v])
  have s2 := same_new hwa (.lst [.ref t0])
  have s12 := s1.trans s2
  have hwaH : H wa = none := s1.free hwa
  have w2 : upd (upd H t0 (.tup [u, v])) wa (.lst [.ref t0]) wa = some (.lst [.ref t0]) := upd_same
  have p0 : Pr K (upd (upd H t0 (.tup [u, v])) wa (.lst [.ref t0])) (.ref t0) (k, d) := ⟨t0, u, v, rfl, s2 _ _ upd_same, Dq.mono s12 _ _ hu, Dq.mono s12 _ _ hv⟩
  generalize upd (upd H t0 (.tup [u, v])) wa (.lst [.ref t0]) = H2 at s12 w2 p0 ⊢
  dsimp only [gName, tSeq]
  refine while_ix (fun m σ H' => ∃ st fs ws c5 c6 c7, σ = [some (.ref t), some u, some v, some (.ref gL), some (.ref wa), c5, c6, c7] ∧ Same H H' ∧ H' wa = some (.lst ws) ∧ Paired (Pr K H') ws.reverse st ∧ Paired (fun m (c : PyData × PyData) => Val L bk m c.1 c.2) fs st ∧ fs.sum = m ∧ (∀ c ∈ st, plC c) ∧ m ≤ n) n
    ⟨[(k, d)], [n], [.ref t0], none, none, none, rfl, s12, w2, .cons p0 .nil, .cons val .nil, (by simp), (fun c m => by rw [List.mem_singleton.mp m]; exact pc), Nat.le_refl _⟩ ?_ ?_
  · rintro m σ H' ⟨st, fs, ws, c5, c6, c7, rfl, sH, hw, rw', vf, es, pl, lm⟩
    rcases List.eq_nil_or_concat ws with rfl | ⟨w', y, rfl⟩
    · refine ⟨_, rfl, false, .inl ⟨[], SqL.of hw, rfl⟩, iteF ?_⟩
      exact q H' sH
    · rw [List.concat_eq_append] at hw rw'
      rw [List.reverse_append, List.reverse_singleton, List.singleton_append] at rw'
      obtain ⟨⟨k1, d1⟩, st', rfl, ⟨t1, a1, b1, rfl, hT, hA, hB⟩, rw2⟩ := paired_consL rw'
      obtain ⟨f1, fs', rfl, v1, vf2⟩ := paired_consR vf
      refine ⟨_, rfl, true, .inl ⟨_, SqL.of hw, by simp⟩, iteT ?_⟩
      refine ⟨_, rfl, .inl ⟨rfl, _, SqL.of hw⟩, wa, _, .ref t1, rfl, rfl, hw, by simp, ?_⟩
      have dl : (w' ++ [V.ref t1]).dropLast = w' := by simp
      rw [dl]
      have ts1 := TS.lst hw w'
      have sH1 : Same H (upd H' wa (.lst w')) := fun b o e => by rw [upd_ne (ne_of_none e hwaH)]; exact sH _ _ e
      have hT1 := ts1.t _ _ hT
      have pc1 := pl _ List.mem_cons_self
      have pl' : ∀ c ∈ st', plC c := fun c mc => pl c (List.mem_cons_of_mem _ mc)
      have hA1 := Dq.ts ts1 _ _ pc1.1 hA
      have hB1 := Dq.ts ts1 _ _ pc1.2 hB
      have hw1 : upd H' wa (.lst w') wa = some (.lst w') := upd_same
      have rw3 := prs_ts ts1 pl' rw2
      generalize upd H' wa (.lst w') = H4 at sH1 hT1 hA1 hB1 hw1 rw3 ⊢
      refine ⟨t1, _, rfl, SqT.of hT1, rfl, _, _, rfl, _, _, rfl, rfl, ?_⟩
      have v1 : Val L bk f1 k1 d1 := v1
      obtain ⟨hm, k2, n2, hp, le2, v2⟩ := v1.hops
      refine ⟨_, rfl, _, rfl, t, a1, bk, hm, k1, k2, rfl, tb.on sH1, few, hA1, hp, fun u2 hu2 => ?_⟩
      have pk2 := hp.pl BP pc1.1
      refine ⟨_, rfl, _, rfl, u2, b1, bk, n2, k2, d1, rfl, hu2, hB1, hp.end', v2, fun p H5 ws5 s5 hp5 pr5 => ?_⟩
      have sH5 := sH1.trans s5
      have hw5 := s5 _ _ hw1
      have ts5 := TS.same s5
      have rw5 := prs_ts ts5 pl' rw3
      obtain ⟨fs2, le3, vf3⟩ := kidsV_val v2 hp.end'
      have pl3 := kidsV_pl v2 hp.end' pk2 pc1.2
      refine ⟨_, rfl, rfl, _, rfl, iteN rfl ?_⟩
      have l1 := fuel_len (fun m (c : PyData × PyData) (r : Val L bk m c.1 c.2) => r.pos) vf2
      have l2 := fuel_len (fun m (c : PyData × PyData) (r : Val L bk m c.1 c.2) => r.pos) vf3
      have l3 := paired_length rw5
      have l4 := paired_length pr5
      rw [List.length_reverse] at l3
      rw [List.sum_cons] at es
      refine ⟨_, rfl, .inl ⟨rfl, _, SqL.of hw5⟩, _, rfl, wa, p, w', ws5, rfl, rfl, hw5, hp5, z3 (by omega), ?_⟩
      have ts6 := TS.lst hw5 (w' ++ ws5)
      refine ⟨(fs2.reverse ++ fs').sum, ?_, (kidsV k2 d1).reverse ++ st', fs2.reverse ++ fs', w' ++ ws5, _, _, _, rfl, (fun b o e => by rw [upd_ne (ne_of_none e hwaH)]; exact sH5 _ _ e), upd_same, ?_, paired_app (paired_rev vf3) vf2, rfl, ?_, ?_⟩
      · rw [sum_app, sum_rev]
        omega
      · rw [List.reverse_append]
        exact paired_app (paired_rev (prs_ts ts6 pl3 pr5)) (prs_ts ts6 pl' rw5)
      · intro c mc
        rcases List.mem_append.mp mc with mc | mc
        · exact pl3 c (List.mem_reverse.mp mc)
        · exact pl' c mc
      · rw [sum_app, sum_rev]
        omega
  · intro σ H' Q1 Q2 hq hc
    obtain ⟨x, ex, k, tr, q1⟩ := hc
    exact ⟨x, ex, k, tr, hq _ _ q1⟩
end
end Toy
set_option Elab.async false
set_option linter.all false
set_option maxRecDepth 100000
set_option maxHeartbeats 4000000
namespace L2
open PySem PySem.Spec PyProof.Rows
abbrev pathD (p : List Int) : PyData := .tuple (p.map PyData.int)
/-! ### path + (i,) -/
theorem ints_dq {K : PySem.W.Frag} {H : Hp} : ∀ {p : List Int} {vs : List V}, DqAll K H vs (p.map PyData.int) → vs = p.map V.int
  | [], _, .nil => rfl
  | i :: p, _, .cons (.int _) t => by rw [ints_dq t]; rfl
theorem dq_ints {K : PySem.W.Frag} {H : Hp} : ∀ p : List Int, DqAll K H (p.map V.int) (p.map PyData.int)
  | [] => .nil
  | i :: p => .cons (.int i) (dq_ints p)
def tSnoc (K : PySem.W.Frag) (te : TE) (i : Int) : TE := fun σ H Q => te σ H fun x H1 => ∃ p : List Int, Dq K H1 x (pathD p) ∧ p.length ≤ 2000 ∧ ∀ y H2, Same H1 H2 → Dq K H2 y (pathD (p ++ [i])) → Q y H2
theorem tSnoc_imp {K : PySem.W.Frag} {te : TE} (i : Int) (σ : St) (H : Hp) (Q : VK) (q0 : tSnoc K te i σ H Q) (mono : ∀ σ H Q Q', (∀ b H1, Q b H1 → Q' b H1) → te σ H Q → te σ H Q') : tOp (rCatN K) te (tTupN (tCons (tC (.int i)) tNil)) σ H Q := by
  refine mono σ H _ _ (fun x H1 h => ?_) q0
  obtain ⟨p, hd, hl, q⟩ := h
  refine ⟨Nat.le_trans (by show 1 ≤ 20; decide) (by decide), fun a o ha ho => ?_⟩
  obtain ⟨ad, xs, rfl, hx, hA⟩ := Toy.dq_tupleP hd
  have s1 := Toy.same_new ha (.frz o (.tup [.int i]))
  have hN : upd H1 a (.frz o (.tup [.int i])) a = some (.frz o (.tup [.int i])) := upd_same
  have hl2 := ints_dq hA
  refine ⟨ad, a, xs, [.int i], rfl, rfl, (s1.seqP hx).seqT, (SqP.of hN ho).seqT, ?_, fun e => ?_, (fun _ e => nomatch e), fun e _ b o2 hb ho2 => ?_⟩
  · rw [hl2, List.length_map]
    exact Nat.le_trans (by show p.length + 1 ≤ 2001; omega) (by decide)
  · have ep : p = [] := by
      rw [e] at hl2
      exact List.map_eq_nil_iff.mp hl2.symm
    refine q _ _ s1 ?_
    rw [ep]
    exact .tup (SqP.of hN ho) (.cons (.int i) .nil)
  · refine q _ _ (s1.trans (Toy.same_new hb _)) (.tup (SqP.of upd_same ho2) ?_)
    rw [hl2, List.map_append]
    exact (dq_ints p).append (.cons (.int i) .nil)
theorem pe_snoc {X : Cx} {j : Nat} {i : Int} {e f : Expr} {pos : Pos} (h : PE X e (tVar j)) (g : PE X f (tTupN (tCons (tC (.int i)) tNil))) : PE X (.BinOp e .Add f pos) (tSnoc X.K (tVar j) i) :=
  (pe_op op_catN h g).imp fun σ H Q q => tSnoc_imp i σ H Q q (fun σ H Q Q' hq hc => by
    obtain ⟨x, ex, q1⟩ := hc
    exact ⟨x, ex, hq _ _ q1⟩)
end L2
namespace Toy
open PySem L2 PyProof.Rows
abbrev sKs : Stmt := top 48
abbrev sBel : Stmt := top 47
abbrev sMet : Stmt := top 46
abbrev sPto : Stmt := top 50
/-! ### all parts met -/
theorem pl_path (p : List Int) : plB (pathD p) = true := plA_iff.mpr fun d m => by
  obtain ⟨i, _, rfl⟩ := List.mem_map.mp m
  rfl
/-- kinds of a book -/
def kOk (k : PyData) : Prop := stB k = true ∧ k.depth ≤ 60
def BkK (bk : List (Str × PyData)) : Prop := ∀ x k, lookB bk x = some k → kOk k
theorem BkK.p {bk : List (Str × PyData)} (h : BkK bk) : BkP bk := fun x k l => st_pl _ (h x k l).1
def okM (c : M3) : Prop := kOk c.1 ∧ plB c.2.1 = true
theorem kOk.row {w : Str} {a b : PyData} (h : kOk (.tuple [.str w, a, b])) : kOk a ∧ kOk b := by
  have h' : (stB (.str w) && (stB a && (stB b && true))) = true := h.1
  simp only [Bool.and_eq_true] at h'
  have d := h.2
  rw [depth_row] at d
  exact ⟨⟨h'.2.1, by omega⟩, ⟨h'.2.2.1, by omega⟩⟩
theorem kidsM_ok {L : PyData → Prop} {bk : List (Str × PyData)} (B : BkK bk) {n : Nat} {k v : PyData} (h : Val L bk n k v) (p : List Int) (pk : kOk k) (pv' : plB v = true) : ∀ c ∈ kidsM bk k v p, okM c := by
  cases h with
  | thing l => exact fun _ m => nomatch m
  | unit => exact fun _ m => nomatch m
  | name l _ =>
    rw [kidsM_n l]
    intro c mc
    rw [List.mem_singleton.mp mc]
    exact ⟨B _ _ l, pv'⟩
  | @pair n m q a b u v ga gb le =>
    intro c mc
    rcases List.mem_cons.mp (show c ∈ [(a, u, p ++ [1]), (b, v, p ++ [2])] from mc) with e | mc
    · rw [e]; exact ⟨pk.row.1, (pl_row pv').1⟩
    · rw [List.mem_singleton.mp mc]; exact ⟨pk.row.2, (pl_row pv').2⟩
  | @left n a b u g =>
    rw [kidsM_l]
    intro c mc
    rw [List.mem_singleton.mp mc]
    exact ⟨pk.row.1, pl_row1 pv'⟩
  | @right n a b u g =>
    rw [kidsM_r]
    intro c mc
    rw [List.mem_singleton.mp mc]
    exact ⟨pk.row.2, pl_row1 pv'⟩
theorem met_ok {L : PyData → Prop} {bk : List (Str × PyData)} (B : BkK bk) : ∀ {n N : Nat} {k v : PyData} {p : List Int}, Val L bk n k v → n ≤ N → kOk k → plB v = true → ∀ c ∈ met bk N k v p, okM c
  | n, 0, _, _, _, h, le, _, _ => absurd h.pos (by omega)
  | n, N + 1, k, v, p, h, le, pk, pv' => fun c mc => by
    rcases List.mem_cons.mp (show c ∈ (k, v, p) :: _ from mc) with e | mc
    · rw [e]; exact ⟨pk, pv'⟩
    · obtain ⟨c2, m2, mc⟩ := List.mem_flatMap.mp mc
      obtain ⟨fs, hs, pr⟩ := kidsM_val h p
      obtain ⟨q, _, g, lq⟩ := paired_mem_le pr c2 m2
      obtain ⟨o1, o2⟩ := kidsM_ok B h p pk pv' c2 m2
      exact met_ok B g (by omega) o1 o2 c mc
/-- a row of a part, its kind, its path -/
def Pm (K : PySem.W.Frag) (H : Hp) (x : V) (c : M3) : Prop := ∃ t a b p, x = .ref t ∧ H t = some (.tup [a, b, p]) ∧ Dq K H a c.1 ∧ Dq K H b c.2.1 ∧ Dq K H p (pathD c.2.2)
theorem Pm.ts {K : PySem.W.Frag} {H H' : Hp} (e : TS H H') {x : V} {c : M3} (o : okM c) (h : Pm K H x c) : Pm K H' x c := by
  obtain ⟨t, a, b, p, ex, ht, ha, hb, hp⟩ := h
  exact ⟨t, a, b, p, ex, e.t _ _ ht, Dq.ts e _ _ (st_pl _ o.1.1) ha, Dq.ts e _ _ o.2 hb, Dq.ts e _ _ (pl_path _) hp⟩
theorem pms_ts {K : PySem.W.Frag} {H H' : Hp} (e : TS H H') : ∀ {ws : List V} {st : List M3}, (∀ c ∈ st, okM c) → Paired (Pm K H) ws st → Paired (Pm K H') ws st
  | _, _, _, .nil => .nil
  | _, _, p, .cons r t => .cons (Pm.ts e (p _ List.mem_cons_self) r) (pms_ts e (fun c m => p c (List.mem_cons_of_mem _ m)) t)
def spKs (K : PySem.W.Frag) : Sp := fun vs H Q _ => ∃ (u : V) (s w : Str) (a b : PyData), vs = [u, .str s] ∧ Dq K H u (.tuple [.str w, a, b]) ∧ ∀ x, Dq K H x (if sideD s = true then a else b) → Q x H
def spBel (K : PySem.W.Frag) (L : PyData → Prop) : Sp := fun vs H Q _ => ∃ (t : Addr) (u v x : V) (bk : List (Str × PyData)) (n : Nat) (k d : PyData) (p : List Int), vs = [.ref t, u, v, x] ∧ Tab K H t bk ∧ Dq K H u k ∧ Dq K H v d ∧ Dq K H x (pathD p) ∧ p.length ≤ 2000 ∧ Val L bk n k d ∧
  ∀ l H' ws, Same H H' → H' l = some (.lst ws) → Paired (Pm K H') ws (kidsM bk k d p).reverse → Q (.ref l) H'
def spMet (K : PySem.W.Frag) (L : PyData → Prop) : Sp := fun vs H Q _ => ∃ (t : Addr) (u v : V) (bk : List (Str × PyData)) (n : Nat) (k d : PyData), vs = [.ref t, u, v] ∧ Tab K H t bk ∧ BkK bk ∧ Dq K H u k ∧ Dq K H v d ∧ kOk k ∧ plB d = true ∧ Val L bk n k d ∧ n ≤ 1000 ∧
  ∀ l H' ws, Same H H' → H' l = some (.lst ws) → Paired (Pm K H') ws (met bk n k d []) → Q (.ref l) H'
def spPto (K : PySem.W.Frag) (L : PyData → Prop) : Sp := fun vs H Q _ => ∃ (t : Addr) (u x v : V) (bk : List (Str × PyData)) (n : Nat) (k d : PyData) (h : Ho), vs = [.ref t, u, x, v] ∧ Tab K H t bk ∧ BkK bk ∧ Dq K H u k ∧ Dq K H x (hoD h) ∧ hoOk h ∧ Dq K H v d ∧ kOk k ∧ plB d = true ∧ Val L bk n k d ∧ n ≤ 1000 ∧
  ∀ l H' ws, Same H H' → H' l = some (.lst ws) → DqAll K H' ws ((roads bk (hoD h) n k d).map pathD) → Q (.ref l) H'
section
variable {P : Program} {w : World} {K : PySem.W.Frag} {mg : Str → Option Value} {base : Heap}
theorem scKs : FnScope ["kind", "side"] ["kind", "side"] (defScope sKs) := ⟨rfl, rfl, rfl, by decide +kernel, rfl, by decide +kernel, by decide +kernel⟩
theorem scBel : FnScope ["table", "kind", "value", "path", "word"] ["table", "kind", "value", "path"] (defScope sBel) := ⟨rfl, rfl, rfl, by decide +kernel, rfl, by decide +kernel, by decide +kernel⟩
theorem scMet : FnScope ["table", "kind", "value", "met", "waiting", "part_kind", "part", "path"] ["table", "kind", "value"] (defScope sMet) := ⟨rfl, rfl, rfl, by decide +kernel, rfl, by decide +kernel, by decide +kernel⟩
theorem scPto : FnScope ["table", "kind", "hole", "value", "part_kind", "_", "path"] ["table", "kind", "hole", "value"] (defScope sPto) := ⟨rfl, rfl, rfl, by decide +kernel, rfl, by decide +kernel, by decide +kernel⟩
theorem ok_side {f : Addr} {fd : FuncData} (F : Fun K "kind_on_side" "kind_on_side" sKs f fd) : FnOk P w K mg base CX0 1 f fd ["kind", "side"] (spKs K) := by
  refine F.ok scKs (fun vs H Q E h => ?_) (fun cdv A outer s H vs Q E hr h => ?_)
  · obtain ⟨u, s, w, a, b, rfl, _⟩ := h
    rfl
  obtain ⟨u, s, w, a, b, rfl, hu, q⟩ := h
  refine ⟨_, (pss_one (ps_ret (pe_ifExp (pt_cmpR op_eq (pv 1) pe_str (nomark _)) (pe_ix ix_tup (pv 0) pe_int (fun _ _ => rfl)) (pe_ix ix_tup (pv 0) pe_int (fun _ _ => rfl))))), ?_⟩
  obtain ⟨ad, xs, rfl, hx, hA⟩ := dq_tuple hu
  obtain ⟨x0, rs, rfl, g0, hA⟩ := dqAll_cons hA
  obtain ⟨x1, rs, rfl, g1, hA⟩ := dqAll_cons hA
  obtain ⟨x2, rs, rfl, g2, hA⟩ := dqAll_cons hA
  refine ⟨_, rfl, rfl, _, rfl, ite2 (fun g => ?_) (fun g => ?_)⟩
  · rw [if_pos (show sideD s = true from g)] at q
    exact ⟨_, rfl, ad, _, 1, _, rfl, rfl, hx, atI_nat (j := 1) rfl, q _ g1⟩
  · rw [if_neg (show ¬ sideD s = true from g)] at q
    exact ⟨_, rfl, ad, _, 2, _, rfl, rfl, hx, atI_nat (j := 2) rfl, q _ g2⟩
theorem ok_below {f gK : Addr} {fd dK : FuncData} {L : PyData → Prop} (F : Fun K "parts_below" "parts_below" sBel f fd) (KS : Gv P w K mg base 1 "kind_on_side" gK dK ["kind", "side"] (spKs K)) : FnOk P w K mg base CX0 2 f fd ["table", "kind", "value", "path"] (spBel K L) := by
  refine F.ok scBel (fun vs H Q E h => ?_) (fun cdv A outer s H vs Q E hr h => ?_)
  · obtain ⟨t, u, v, x, bk, n, k, d, p, rfl, _⟩ := h
    rfl
  obtain ⟨t, u, v, x, bk, n, k, d, p, rfl, tb, hu, hv, hp, lp, val, q⟩ := h
  have hu1 := Nat.lt_of_le_of_lt (Nat.add_le_add_left (by decide : 1 ≤ 64) _) hr.units
  refine ⟨_, (pss_cons (ps_set (i := 4) scBel.nd rfl (.inl rfl) (pe_ix ix_tup (pv 1) pe_int (fun _ _ => rfl)))
    (pss_cons (ps_if (pt_cmpR op_eq (pv 4) pe_str (nomark _)) (pss_one (ps_ret (pe_lst (pa_cons (pe_tup (pa_cons (pe_dget hu1 (pv 0) (pe_ix ix_tup (pv 1) pe_int (fun _ _ => rfl)) (fun _ _ => rfl)) (pa_cons (pv 2) (pa_cons (pv 3) pa_nil)))) pa_nil)))) pss_nil)
    (pss_cons (ps_if (pt_cmpR op_eq (pv 4) pe_str (nomark _)) (pss_one (ps_ret (pe_lst (pa_cons (pe_tup (pa_cons (pe_ix ix_tup (pv 1) pe_int (fun _ _ => rfl)) (pa_cons (pe_ix ix_tup (pv 2) pe_int (fun _ _ => rfl)) (pa_cons (pe_snoc (pv 3) (pe_tupN (pa_cons pe_int pa_nil))) pa_nil)))) (pa_cons (pe_tup (pa_cons (pe_ix ix_tup (pv 1) pe_int (fun _ _ => rfl)) (pa_cons (pe_ix ix_tup (pv 2) pe_int (fun _ _ => rfl)) (pa_cons (pe_snoc (pv 3) (pe_tupN (pa_cons pe_int pa_nil))) pa_nil)))) pa_nil))))) pss_nil)
    (pss_cons (ps_if (pt_cmpR op_eq (pv 4) pe_str (nomark _)) (pss_one (ps_ret (pe_lst (pa_cons (pe_tup (pa_cons (pe_call KS.ok hr rfl KS.m KS.k KS.b .nil pass0 (pa_cons (pv 1) (pa_cons (pe_ix ix_tup (pv 2) pe_int (fun _ _ => rfl)) pa_nil))) (pa_cons (pe_ix ix_tup (pv 2) pe_int (fun _ _ => rfl)) (pa_cons (pe_snoc (pv 3) (pe_tupN (pa_cons pe_int pa_nil))) pa_nil)))) pa_nil)))) pss_nil)
    (pss_one (ps_ret (pe_lst pa_nil))))))), ?_⟩
  have z3 : ∀ {k : Nat}, k ≤ 20 → k ≤ sizeLine := fun h => Nat.le_trans h (by decide)
  cases val with
  | thing l =>
    obtain ⟨ad, xs, rfl, hx, hA⟩ := dq_tuple hu
    obtain ⟨x0, rs, rfl, g0, hA⟩ := dqAll_cons hA
    cases g0
    refine ⟨_, rfl, ad, _, 0, _, rfl, rfl, hx, atI_nat (j := 0) rfl, ?_⟩
    refine ⟨_, rfl, rfl, _, rfl, iteN (by decide +kernel) ⟨_, rfl, rfl, _, rfl, iteN (by decide +kernel) ⟨_, rfl, rfl, _, rfl, iteN (by decide +kernel) ⟨z3 (by show 0 ≤ 20; decide), fun l hl => ?_⟩⟩⟩⟩
    exact q l _ [] (same_new hl _) upd_same .nil
  | unit =>
    obtain ⟨ad, xs, rfl, hx, hA⟩ := dq_tuple hu
    obtain ⟨x0, rs, rfl, g0, hA⟩ := dqAll_cons hA
    cases g0
    refine ⟨_, rfl, ad, _, 0, _, rfl, rfl, hx, atI_nat (j := 0) rfl, ?_⟩
    refine ⟨_, rfl, rfl, _, rfl, iteN (by decide +kernel) ⟨_, rfl, rfl, _, rfl, iteN (by decide +kernel) ⟨_, rfl, rfl, _, rfl, iteN (by decide +kernel) ⟨z3 (by show 0 ≤ 20; decide), fun l hl => ?_⟩⟩⟩⟩
    exact q l _ [] (same_new hl _) upd_same .nil
  | @name n y k1 _ l g =>
    obtain ⟨ad, xs, rfl, hx, hA⟩ := dq_tuple hu
    obtain ⟨x0, rs, rfl, g0, hA⟩ := dqAll_cons hA
    obtain ⟨x1, rs, rfl, g1, hA⟩ := dqAll_cons hA
    cases g0
    cases g1
    rw [kidsM_n l] at q
    refine ⟨_, rfl, ad, _, 0, _, rfl, rfl, hx, atI_nat (j := 0) rfl, ?_⟩
    refine ⟨_, rfl, rfl, _, rfl, iteY (by decide +kernel) ?_⟩
    rcases tb.get y with ⟨_, z⟩ | ⟨v1, d1, gk, z, D1⟩
    · rw [l] at z
      cases z
    · rw [l] at z
      cases z
      refine ⟨_, rfl, _, rfl, ad, _, 1, _, rfl, rfl, hx, atI_nat (j := 1) rfl, t, v1, rfl, gk, _, rfl, _, rfl, z3 (by show 3 ≤ 20; decide), fun t1 h1 => ⟨z3 (by show 1 ≤ 20; decide), fun l hl => ?_⟩⟩
      have s1 := same_new h1 (.tup [v1, v, x])
      have s2 := same_new hl (.lst [.ref t1])
      have s12 := s1.trans s2
      exact q l _ [.ref t1] s12 upd_same (.cons ⟨t1, v1, v, x, rfl, s2 _ _ upd_same, Dq.mono s12 _ _ D1, Dq.mono s12 _ _ hv, Dq.mono s12 _ _ hp⟩ .nil)
  | @pair n m p' a b d1 d2 _ _ _ =>
    obtain ⟨ad, xs, rfl, hx, hA⟩ := dq_tuple hu
    obtain ⟨x0, rs, rfl, g0, hA⟩ := dqAll_cons hA
    obtain ⟨x1, rs, rfl, g1, hA⟩ := dqAll_cons hA
    obtain ⟨x2, rs, rfl, g2, hA⟩ := dqAll_cons hA
    cases g0
    obtain ⟨av, ys, rfl, hy, hB⟩ := dq_tuple hv
    obtain ⟨y0, ts, rfl, j0, hB⟩ := dqAll_cons hB
    obtain ⟨y1, ts, rfl, j1, hB⟩ := dqAll_cons hB
    obtain ⟨y2, ts, rfl, j2, hB⟩ := dqAll_cons hB
    refine ⟨_, rfl, ad, _, 0, _, rfl, rfl, hx, atI_nat (j := 0) rfl, ?_⟩
    refine ⟨_, rfl, rfl, _, rfl, iteN (by decide +kernel) ⟨_, rfl, rfl, _, rfl, iteY (by decide +kernel) ?_⟩⟩
    refine ⟨_, rfl, ad, _, 2, _, rfl, rfl, hx, atI_nat (j := 2) rfl, _, rfl, av, _, 2, _, rfl, rfl, hy, atI_nat (j := 2) rfl, _, rfl, p, hp, lp, fun z1 H1 s1 hz1 => ⟨z3 (by show 3 ≤ 20; decide), fun t1 h1 => ?_⟩⟩
    have s2 := same_new h1 (.tup [x2, y2, z1])
    have s12 := s1.trans s2
    refine ⟨_, rfl, ad, _, 1, _, rfl, rfl, s12.seqT hx, atI_nat (j := 1) rfl, _, rfl, av, _, 1, _, rfl, rfl, s12.seqT hy, atI_nat (j := 1) rfl, _, rfl, p, Dq.mono s12 _ _ hp, lp, fun z2 H2 s3 hz2 => ⟨z3 (by show 3 ≤ 20; decide), fun t2 h2 => ⟨z3 (by show 2 ≤ 20; decide), fun l hl => ?_⟩⟩⟩
    have s4 := same_new h2 (.tup [x1, y1, z2])
    have s5 := same_new hl (.lst [.ref t1, .ref t2])
    have s45 := s4.trans s5
    have s35 := s3.trans s45
    have s25 := s2.trans s35
    have s15 := s1.trans s25
    exact q l _ [.ref t1, .ref t2] s15 upd_same (.cons ⟨t1, x2, y2, z1, rfl, s35 _ _ upd_same, Dq.mono s15 _ _ g2, Dq.mono s15 _ _ j2, Dq.mono s25 _ _ hz1⟩ (.cons ⟨t2, x1, y1, z2, rfl, s5 _ _ upd_same, Dq.mono s15 _ _ g1, Dq.mono s15 _ _ j1, Dq.mono s45 _ _ hz2⟩ .nil))
  | @left n a b d1 _ =>
    obtain ⟨ad, xs, rfl, hx, hA⟩ := dq_tuple hu
    obtain ⟨x0, rs, rfl, g0, hA⟩ := dqAll_cons hA
    cases g0
    obtain ⟨av, ys, rfl, hy, hB⟩ := dq_tuple hv
    obtain ⟨y0, ts, rfl, j0, hB⟩ := dqAll_cons hB
    obtain ⟨y1, ts, rfl, j1, hB⟩ := dqAll_cons hB
    cases j0
    rw [kidsM_l] at q
    refine ⟨_, rfl, ad, _, 0, _, rfl, rfl, hx, atI_nat (j := 0) rfl, ?_⟩
    refine ⟨_, rfl, rfl, _, rfl, iteN (by decide +kernel) ⟨_, rfl, rfl, _, rfl, iteN (by decide +kernel) ⟨_, rfl, rfl, _, rfl, iteY (by decide +kernel) ?_⟩⟩⟩
    refine ⟨_, rfl, _, rfl, av, _, 0, _, rfl, rfl, hy, atI_nat (j := 0) rfl, _, "left", "either", a, b, rfl, hu, fun x' hx' => ?_⟩
    rw [side_l, if_pos rfl] at hx'
    refine ⟨_, rfl, av, _, 1, _, rfl, rfl, hy, atI_nat (j := 1) rfl, _, rfl, p, hp, lp, fun z1 H1 s1 hz1 => ⟨z3 (by show 3 ≤ 20; decide), fun t1 h1 => ⟨z3 (by show 1 ≤ 20; decide), fun l hl => ?_⟩⟩⟩
    have s2 := same_new h1 (.tup [x', y1, z1])
    have s3 := same_new hl (.lst [.ref t1])
    have s23 := s2.trans s3
    have s13 := s1.trans s23
    exact q l _ [.ref t1] s13 upd_same (.cons ⟨t1, x', y1, z1, rfl, s3 _ _ upd_same, Dq.mono s13 _ _ hx', Dq.mono s13 _ _ j1, Dq.mono s23 _ _ hz1⟩ .nil)
  | @right n a b d1 _ =>
    obtain ⟨ad, xs, rfl, hx, hA⟩ := dq_tuple hu
    obtain ⟨x0, rs, rfl, g0, hA⟩ := dqAll_cons hA
    cases g0
    obtain ⟨av, ys, rfl, hy, hB⟩ := dq_tuple hv
    obtain ⟨y0, ts, rfl, j0, hB⟩ := dqAll_cons hB
    obtain ⟨y1, ts, rfl, j1, hB⟩ := dqAll_cons hB
    cases j0
    rw [kidsM_r] at q
    refine ⟨_, rfl, ad, _, 0, _, rfl, rfl, hx, atI_nat (j := 0) rfl, ?_⟩
    refine ⟨_, rfl, rfl, _, rfl, iteN (by decide +kernel) ⟨_, rfl, rfl, _, rfl, iteN (by decide +kernel) ⟨_, rfl, rfl, _, rfl, iteY (by decide +kernel) ?_⟩⟩⟩
    refine ⟨_, rfl, _, rfl, av, _, 0, _, rfl, rfl, hy, atI_nat (j := 0) rfl, _, "right", "either", a, b, rfl, hu, fun x' hx' => ?_⟩
    rw [side_r, if_neg Bool.false_ne_true] at hx'
    refine ⟨_, rfl, av, _, 1, _, rfl, rfl, hy, atI_nat (j := 1) rfl, _, rfl, p, hp, lp, fun z1 H1 s1 hz1 => ⟨z3 (by show 3 ≤ 20; decide), fun t1 h1 => ⟨z3 (by show 1 ≤ 20; decide), fun l hl => ?_⟩⟩⟩
    have s2 := same_new h1 (.tup [x', y1, z1])
    have s3 := same_new hl (.lst [.ref t1])
    have s23 := s2.trans s3
    have s13 := s1.trans s23
    exact q l _ [.ref t1] s13 upd_same (.cons ⟨t1, x', y1, z1, rfl, s3 _ _ upd_same, Dq.mono s13 _ _ hx', Dq.mono s13 _ _ j1, Dq.mono s23 _ _ hz1⟩ .nil)
theorem ok_met {f gB : Addr} {fd dB : FuncData} {L : PyData → Prop} (F : Fun K "parts_met" "parts_met" sMet f fd) (BE : Gv P w K mg base 2 "parts_below" gB dB ["table", "kind", "value", "path"] (spBel K L)) : FnOk P w K mg base CX0 3 f fd ["table", "kind", "value"] (spMet K L) := by
  refine F.ok scMet (fun vs H Q E h => ?_) (fun cdv A outer s H vs Q E hr h => ?_)
  · obtain ⟨t, u, v, bk, n, k, d, rfl, _⟩ := h
    rfl
  obtain ⟨t, u, v, bk, n, k, d, rfl, tb, BK, hu, hv, ok, pd', val, nn, q⟩ := h
  refine ⟨_, (pss_cons (ps_set (i := 3) scMet.nd rfl (.inl rfl) (pe_lst pa_nil))
    (pss_cons (ps_set (i := 4) scMet.nd rfl (.inl rfl) (pe_lst (pa_cons (pe_tup (pa_cons (pv 1) (pa_cons (pv 2) (pa_cons (pe_tupN pa_nil) pa_nil)))) pa_nil)))
    (pss_cons (ps_while PassesOwn.never (pt_truth (pv 4) (by intro _; rfl)) (pss_cons (ps_asg (pe_bm0 PySem.F.plainAttrs_list PySem.F.slot_list_pop PySem.F.type_list_pop mt_pop (pv 4)) (pg_tup rfl (pgs_cons (pg_name (i := 5) scMet.nd rfl (.inl rfl)) (pgs_cons (pg_name (i := 6) scMet.nd rfl (.inl rfl)) (pgs_cons (pg_name (i := 7) scMet.nd rfl (.inl rfl)) pgs_nil)))))
    (pss_cons (ps_expr (pe_bm PySem.F.plainAttrs_list PySem.F.slot_list_append PySem.F.type_list_append mt_append (pv 3) (pa_cons (pe_tup (pa_cons (pv 5) (pa_cons (pv 6) (pa_cons (pv 7) pa_nil)))) pa_nil)))
    (pss_one (ps_expr (pe_bm PySem.F.plainAttrs_list PySem.F.slot_list_extend PySem.F.type_list_extend mt_extend (pv 4) (pa_cons (pe_call BE.ok hr rfl BE.m BE.k BE.b .nil pass0 (pa_cons (pv 0) (pa_cons (pv 5) (pa_cons (pv 6) (pa_cons (pv 7) pa_nil))))) pa_nil)))))))
    (pss_one (ps_ret (pv 3)))))), ?_⟩
  have z3 : ∀ {k : Nat}, k ≤ 5000 → k ≤ sizeLine := fun h => Nat.le_trans h (by decide)
  refine ⟨z3 (by show 0 ≤ 5000; decide), fun ma hma => ?_⟩
  have s1 := same_new hma (.lst [])
  refine ⟨_, rfl, _, rfl, z3 (by show 0 ≤ 5000; decide), fun pe o hpe ho => ⟨z3 (by show 3 ≤ 5000; decide), fun t0 ht0 => ⟨z3 (by show 1 ≤ 5000; decide), fun wa hwa => ?_⟩⟩⟩
  have s2 := same_new hpe (.frz o (.tup []))
  have s3 := same_new ht0 (.tup [u, v, .ref pe])
  have s4 := same_new hwa (.lst [.ref t0])
  have s24 := s2.trans (s3.trans s4)
  have s14 := s1.trans s24
  have hm4 := s24 _ _ (upd_same (H := H) (a := ma) (o := .lst []))
  have hwaH : H wa = none := (s1.trans (s2.trans s3)).free hwa
  have nmw : ma ≠ wa := fun z => by
    have e := (s2.trans s3) _ _ (upd_same (H := H) (a := ma) (o := .lst []))
    subst z
    rw [hwa] at e
    cases e
  have w4 : upd (upd (upd (upd H ma (.lst [])) pe (.frz o (.tup []))) t0 (.tup [u, v, .ref pe])) wa (.lst [.ref t0]) wa = some (.lst [.ref t0]) := upd_same
  have p0 : Pm K (upd (upd (upd (upd H ma (.lst [])) pe (.frz o (.tup []))) t0 (.tup [u, v, .ref pe])) wa (.lst [.ref t0])) (.ref t0) (k, d, []) := ⟨t0, u, v, .ref pe, rfl, s4 _ _ upd_same, Dq.mono s14 _ _ hu, Dq.mono s14 _ _ hv, .tup (SqP.of ((s3.trans s4) _ _ upd_same) ho) .nil⟩
  generalize upd (upd (upd (upd H ma (.lst [])) pe (.frz o (.tup []))) t0 (.tup [u, v, .ref pe])) wa (.lst [.ref t0]) = H4 at s14 w4 hm4 p0 ⊢
  dsimp only [gName, tSeq]
  refine while_ix (fun m σ H' => ∃ st fs fnd ws zs c5 c6 c7, σ = [some (.ref t), some u, some v, some (.ref ma), some (.ref wa), c5, c6, c7] ∧ Same H H' ∧ H' wa = some (.lst ws) ∧ H' ma = some (.lst zs) ∧ Paired (Pm K H') ws.reverse st ∧ Paired (Pm K H') zs fnd ∧ Paired (fun m (c : M3) => Val L bk m c.1 c.2.1) fs st ∧ fs.sum = m ∧ m ≤ n ∧ (∀ c ∈ st, okM c) ∧ fnd ++ st.flatMap (fun c => met bk n c.1 c.2.1 c.2.2) = met bk n k d []) n
    ⟨[(k, d, [])], [n], [], [.ref t0], [], none, none, none, rfl, s14, w4, hm4, .cons p0 .nil, .nil, .cons val .nil, (by simp), Nat.le_refl _, (fun c m => by rw [List.mem_singleton.mp m]; exact ⟨ok, pd'⟩), (by rw [List.flatMap_cons, List.flatMap_nil, List.append_nil]; rfl)⟩ ?_ ?_
  · rintro m σ H' ⟨st, fs, fnd, ws, zs, c5, c6, c7, rfl, sH, hw, hm, rw', rz, vf, es, lm, pl, tot⟩
    obtain ⟨mlen, mlong⟩ := met_len (p := []) val
    have okall := met_ok (p := []) BK val (Nat.le_refl n) ok pd'
    rcases List.eq_nil_or_concat ws with rfl | ⟨w', y, rfl⟩
    · refine ⟨_, rfl, false, .inl ⟨[], SqL.of hw, rfl⟩, iteF ?_⟩
      obtain rfl := paired_nilL rw'
      rw [List.flatMap_nil, List.append_nil] at tot
      subst tot
      exact ⟨_, rfl, q ma H' zs sH hm rz⟩
    · rw [List.concat_eq_append] at hw rw'
      rw [List.reverse_append, List.reverse_singleton, List.singleton_append] at rw'
      obtain ⟨⟨k1, d1, p1⟩, st', rfl, ⟨t1, a1, b1, q1, rfl, hT, hA, hB, hC⟩, rw2⟩ := paired_consL rw'
      obtain ⟨f1, fs', rfl, v1, vf2⟩ := paired_consR vf
      have v1 : Val L bk f1 k1 d1 := v1
      rw [List.sum_cons] at es
      have step : met bk n k1 d1 p1 = (k1, d1, p1) :: (kidsM bk k1 d1 p1).flatMap fun c => met bk n c.1 c.2.1 c.2.2 := met_step v1 (by omega)
      have mem1 : (k1, d1, p1) ∈ met bk n k d [] := by
        rw [← tot, List.flatMap_cons]
        refine List.mem_append.mpr (.inr (List.mem_append.mpr (.inl ?_)))
        show (k1, d1, p1) ∈ met bk n k1 d1 p1
        rw [step]
        exact List.mem_cons_self
      have lp1 : p1.length + 1 ≤ n := by
        have z := mlong _ mem1
        simpa using z
      have lf : fnd.length + 1 ≤ n := by
        have z := congrArg List.length tot
        rw [List.length_append, List.flatMap_cons, List.length_append] at z
        have z2 : 1 ≤ (met bk n k1 d1 p1).length := by rw [step, List.length_cons]; omega
        have z3 : (met bk n (k1, d1, p1).1 (k1, d1, p1).2.1 (k1, d1, p1).2.2).length = (met bk n k1 d1 p1).length := rfl
        omega
      refine ⟨_, rfl, true, .inl ⟨_, SqL.of hw, by simp⟩, iteT ?_⟩
      refine ⟨_, rfl, .inl ⟨rfl, _, SqL.of hw⟩, wa, _, .ref t1, rfl, rfl, hw, by simp, ?_⟩
      have dl : (w' ++ [V.ref t1]).dropLast = w' := by simp
      rw [dl]
      have ts1 := TS.lst hw w'
      have sH1 : Same H (upd H' wa (.lst w')) := fun b o e => by rw [upd_ne (ne_of_none e hwaH)]; exact sH _ _ e
      have hT1 := ts1.t _ _ hT
      have o1 := pl _ List.mem_cons_self
      have pl' : ∀ c ∈ st', okM c := fun c mc => pl c (List.mem_cons_of_mem _ mc)
      have plf : ∀ c ∈ fnd, okM c := fun c mc => okall c (by rw [← tot]; exact List.mem_append.mpr (.inl mc))
      have hA1 := Dq.ts ts1 _ _ (st_pl _ o1.1.1) hA
      have hB1 := Dq.ts ts1 _ _ o1.2 hB
      have hC1 := Dq.ts ts1 _ _ (pl_path _) hC
      have hw1 : upd H' wa (.lst w') wa = some (.lst w') := upd_same
      have hm1 : upd H' wa (.lst w') ma = some (.lst zs) := by rw [upd_ne nmw]; exact hm
      have rw3 := pms_ts ts1 pl' rw2
      have rz3 := pms_ts ts1 plf rz
      generalize upd H' wa (.lst w') = H5 at sH1 hT1 hA1 hB1 hC1 hw1 hm1 rw3 rz3 ⊢
      refine ⟨t1, _, rfl, SqT.of hT1, rfl, _, _, rfl, _, _, rfl, _, _, rfl, rfl, ?_⟩
      refine ⟨_, rfl, .inl ⟨rfl, _, SqL.of hm1⟩, _, rfl, _, rfl, _, rfl, z3 (by show 3 ≤ 5000; decide), fun t2 ht2 => ?_⟩
      have s6 := same_new ht2 (.tup [a1, b1, q1])
      have ts6 := TS.same s6
      have lz := paired_length rz3
      refine ⟨ma, zs, .ref t2, rfl, rfl, s6 _ _ hm1, Nat.lt_of_le_of_lt (by omega : zs.length ≤ 1000) (by decide), ?_⟩
      have ts7 := ts6.trans (TS.lst (s6 _ _ hm1) (zs ++ [.ref t2]))
      have sH7 : Same H (upd (upd H5 t2 (.tup [a1, b1, q1])) ma (.lst (zs ++ [.ref t2]))) := fun b o e => by rw [upd_ne (ne_of_none e hma)]; exact s6 _ _ (sH1 _ _ e)
      have hw7 : upd (upd H5 t2 (.tup [a1, b1, q1])) ma (.lst (zs ++ [.ref t2])) wa = some (.lst w') := by rw [upd_ne (Ne.symm nmw)]; exact s6 _ _ hw1
      have hm7 : upd (upd H5 t2 (.tup [a1, b1, q1])) ma (.lst (zs ++ [.ref t2])) ma = some (.lst (zs ++ [.ref t2])) := upd_same
      have ht7 := (TS.lst (s6 _ _ hm1) (zs ++ [.ref t2])).t _ _ (upd_same (H := H5) (a := t2) (o := .tup [a1, b1, q1]))
      have hA7 := Dq.ts ts7 _ _ (st_pl _ o1.1.1) hA1
      have hB7 := Dq.ts ts7 _ _ o1.2 hB1
      have hC7 := Dq.ts ts7 _ _ (pl_path _) hC1
      have rw7 := pms_ts ts7 pl' rw3
      have rz7 := pms_ts ts7 plf rz3
      generalize upd (upd H5 t2 (.tup [a1, b1, q1])) ma (.lst (zs ++ [.ref t2])) = H7 at sH7 hw7 hm7 ht7 hA7 hB7 hC7 rw7 rz7 ⊢
      have rz8 : Paired (Pm K H7) (zs ++ [.ref t2]) (fnd ++ [(k1, d1, p1)]) := paired_app rz7 (.cons ⟨t2, a1, b1, q1, rfl, ht7, hA7, hB7, hC7⟩ .nil)
      refine ⟨_, rfl, .inl ⟨rfl, _, SqL.of hw7⟩, _, rfl, _, rfl, _, rfl, _, rfl, t, a1, b1, q1, bk, f1, k1, d1, p1, rfl, tb.on sH7, hA7, hB7, hC7, by omega, v1, fun l8 H8 ws8 s8 hl8 pr8 => ?_⟩
      have ts8 := TS.same s8
      obtain ⟨fs2, le3, vf3⟩ := kidsM_val v1 p1
      have pl3 := kidsM_ok BK v1 p1 o1.1 o1.2
      have l1 := fuel_len (fun m (c : M3) (r : Val L bk m c.1 c.2.1) => r.pos) vf2
      have l2 := fuel_len (fun m (c : M3) (r : Val L bk m c.1 c.2.1) => r.pos) vf3
      have l3 := paired_length rw7
      have l4 := paired_length pr8
      rw [List.length_reverse] at l3 l4
      have hw8 := s8 _ _ hw7
      refine ⟨wa, l8, w', ws8, rfl, rfl, hw8, hl8, z3 (by omega), ?_⟩
      have ts9 := TS.lst hw8 (w' ++ ws8)
      have ts89 := ts8.trans ts9
      have plf2 : ∀ c ∈ fnd ++ [(k1, d1, p1)], okM c := fun c mc => by
        rcases List.mem_append.mp mc with mc | mc
        · exact plf c mc
        · rw [List.mem_singleton.mp mc]
          exact o1
      refine ⟨(fs2 ++ fs').sum, ?_, kidsM bk k1 d1 p1 ++ st', fs2 ++ fs', fnd ++ [(k1, d1, p1)], w' ++ ws8, zs ++ [.ref t2], _, _, _, rfl, (fun b o e => by rw [upd_ne (ne_of_none e hwaH)]; exact s8 _ _ (sH7 _ _ e)), upd_same, (by rw [upd_ne nmw]; exact s8 _ _ hm7), ?_, pms_ts ts89 plf2 rz8, paired_app vf3 vf2, rfl, ?_, ?_, ?_⟩
      · rw [sum_app]
        omega
      · rw [List.reverse_append]
        have pr9 := paired_rev pr8
        rw [List.reverse_reverse] at pr9
        exact paired_app (pms_ts ts9 pl3 pr9) (pms_ts ts89 pl' rw7)
      · rw [sum_app]
        omega
      · intro c mc
        rcases List.mem_append.mp mc with mc | mc
        · exact pl3 c mc
        · exact pl' c mc
      · rw [List.flatMap_cons, show met bk n (k1, d1, p1).1 (k1, d1, p1).2.1 (k1, d1, p1).2.2 = met bk n k1 d1 p1 from rfl, step] at tot
        rw [List.flatMap_append, List.append_assoc, List.singleton_append, ← tot, List.cons_append]
  · intro σ H' Q1 Q2 hq hc
    obtain ⟨x, ex, k, tr, q1⟩ := hc
    exact ⟨x, ex, k, tr, hq _ _ q1⟩
theorem ok_paths {f gM : Addr} {fd dM : FuncData} {L : PyData → Prop} (F : Fun K "paths_to" "paths_to" sPto f fd) (MT : Gv P w K mg base 3 "parts_met" gM dM ["table", "kind", "value"] (spMet K L)) : FnOk P w K mg base CX0 4 f fd ["table", "kind", "hole", "value"] (spPto K L) := by
  refine F.ok scPto (fun vs H Q E h => ?_) (fun cdv A outer s H vs Q E hr h => ?_)
  · obtain ⟨t, u, x, v, bk, n, k, d, ho, rfl, _⟩ := h
    rfl
  obtain ⟨t, u, x, v, bk, n, k, d, ho, rfl, tb, BK, hu, hx, hok, hv, ok, pd', val, nn, q⟩ := h
  refine ⟨_, (pss_one (ps_ret (pe_lc (own := [("part_kind", 4), ("_", 5), ("path", 6)]) (g := gTup K 3 (gCons (gName 4) (gCons (gName 5) (gCons (gName 6) gNil)))) (tt := tTest (tOp (rEqD K) (tVar 4) (tVar 2))) (te := tVar 6) rfl scPto.nd (pi_list (pe_call MT.ok hr rfl MT.m MT.k MT.b .nil pass0 (pa_cons (pv 0) (pa_cons (pv 1) (pa_cons (pv 3) pa_nil))))) (blkOk_by (own := [("part_kind", 4), ("_", 5), ("path", 6)]) (N := ["table", "kind", "hole", "value", "part_kind", "_", "path"]) (sc := defScope sPto) (by decide +kernel))
        (fun _ _ _ _ _ => pg_tup rfl (pgs_cons (pg_name (i := 4) scPto.nd rfl (.inl rfl)) (pgs_cons (pg_name (i := 5) scPto.nd rfl (.inl rfl)) (pgs_cons (pg_name (i := 6) scPto.nd rfl (.inl rfl)) pgs_nil)))) (fun _ _ _ _ _ => pts_one (pt_cmpR (op_eqD hr.units) (pv 4) (pv 2) (nomark _))) (fun _ _ _ _ _ => (pv 6))))), ?_⟩
  refine ⟨_, rfl, _, rfl, _, rfl, t, u, v, bk, n, k, d, rfl, tb, BK, hu, hv, ok, pd', val, nn, fun l H1 ws s1 hl pr => ?_⟩
  refine ⟨l, rfl, ⟨_, SqL.of hl⟩, fun D nD => ?_⟩
  have okall := met_ok (p := []) BK val (Nat.le_refl n) ok pd'
  obtain ⟨mlen, mlong⟩ := met_len (p := []) val
  have lw := paired_length pr
  refine lc_it (walk_list (xs := ws)) (fun i H2 => Same H1 H2 ∧ ∃ zs, H2 D = some (.lst zs) ∧ zs.length ≤ i ∧ DqAll K H2 zs (((((met bk n k d []).take i).filter fun c => PyData.eqv c.1 (hoD ho)).map fun c => c.2.2).map pathD)) ⟨same_new nD _, [], upd_same, Nat.le_refl _, .nil⟩ (fun i H2 _ z => SqL.of (z.1 _ _ hl)) ?_ ?_
  · rintro i y H2 _ hi ⟨s2, zs, hD, lz, hZ⟩ ⟨rfl, hy⟩
    obtain ⟨c, hc, ⟨t1, a1, b1, q1, rfl, hT, hA, hB, hC⟩⟩ := LiI.paired_get pr hy
    have mc := List.mem_of_getElem? hc
    have o1 := okall c mc
    refine ⟨t1, _, rfl, SqT.of (s2 _ _ hT), rfl, _, _, rfl, _, _, rfl, _, _, rfl, rfl, rfl, ?_⟩
    have e1 : ((met bk n k d []).take (i + 1)).filter (fun c => PyData.eqv c.1 (hoD ho)) = ((met bk n k d []).take i).filter (fun c => PyData.eqv c.1 (hoD ho)) ++ (if PyData.eqv c.1 (hoD ho) = true then [c] else []) := by
      rw [List.take_add_one, hc, List.filter_append]
      congr 1
      show List.filter _ [c] = _
      rw [List.filter_cons]
      rfl
    refine ⟨_, rfl, _, rfl, c.1, hoD ho, Dq.dp _ _ o1.1.1 (Dq.mono s2 _ _ hA), Dq.dp _ _ (hoD_st hok) (Dq.mono (s1.trans s2) _ _ hx), shp o1.1.1 (by have := o1.1.2; omega), shp (hoD_st hok) (hoD_depth ho), _, rfl, ?_⟩
    rw [e1]
    cases g : PyData.eqv c.1 (hoD ho) with
    | true =>
      refine iteT ⟨_, rfl, zs, hD, Nat.lt_of_le_of_lt (by omega : zs.length ≤ 1000) (by decide), fun b o e => by rw [upd_ne (ne_of_none e nD)]; exact s2 _ _ e, zs ++ [q1], upd_same, by rw [List.length_append, List.length_singleton]; omega, ?_⟩
      have ts2 := TS.lst hD (zs ++ [q1])
      rw [if_pos rfl, List.map_append, List.map_append]
      refine DqAll.append (DqAll.ts ts2 _ _ (plA_iff.mpr fun d m => ?_) hZ) (.cons (Dq.ts ts2 _ _ (pl_path _) (Dq.mono s2 _ _ hC)) .nil)
      obtain ⟨r, _, rfl⟩ := List.mem_map.mp m
      exact pl_path r
    | false =>
      refine iteF ⟨s2, zs, hD, by omega, ?_⟩
      rw [if_neg Bool.false_ne_true, List.append_nil]
      exact hZ
  · rintro H2 ⟨s2, zs, hD, lz, hZ⟩
    rw [lw, List.take_length] at hZ
    exact q D H2 zs (s1.trans s2) hD hZ
end
end Toy
set_option Elab.async false
set_option linter.all false
set_option maxRecDepth 100000
set_option maxHeartbeats 4000000
namespace L2
open PySem PySem.Spec PyProof.Rows
/-! ### four keywords, the last one first -/
structure KB4 (K : PySem.W.Frag) (fd : FuncData) (k1 k2 k3 k4 : Str) : Prop where
  to : ∀ (s : Shared) (a b c d : Value), BindsTo s fd ⟨[], [(k4, d), (k3, c), (k2, b), (k1, a)]⟩ [(k1, a), (k2, b), (k3, c), (k4, d)]
theorem Fun.binds4 {K : PySem.W.Frag} {x qual : Str} {st : Stmt} {f : Addr} {fd : FuncData} {k1 k2 k3 k4 : Str} (F : Fun K x qual st f fd)
    (h : ∀ (kV doc pm : Value) (an : Option Addr) (cdv ct a b c d : Value), bindArgs (PySem.W.fnOf x qual (defArgs st) (defBody st) (defScope st) .none kV doc pm an cdv ct) ⟨[], [(k4, d), (k3, c), (k2, b), (k1, a)]⟩ = pure [(k1, a), (k2, b), (k3, c), (k4, d)]) : KB4 K fd k1 k2 k3 k4 := by
  obtain ⟨oc, od, kV, doc, pm, an, cdv, ct, osl, rfl, lk, hcd⟩ := F.ex
  exact ⟨fun s a b c d => BindsTo.of_eq (h kV doc pm an cdv ct a b c d)⟩
def tCallK4 (sp : Sp) (tk : TA) : TE := fun σ H Q => tk σ H fun zs H2 => ∃ w z y x, zs = [w, z, y, x] ∧ sp [x, y, z, w] H2 Q E0
theorem pe_callK4 {X : Cx} {k : Nat} {f : Addr} {fd : FuncData} {k1 k2 k3 k4 : Str} {sp : Sp} {x : Str} {p pos : Pos} {kws : List Keyword} {tk : TA} (F : FnOk X.prog X.w X.K X.mg X.base CX0 k f fd [k1, k2, k3, k4] sp) (hr : Room k X.A) (hg : Gl X x) (hm : X.mg x = some (.ref f)) (hk : PySem.W.keepIn X.K (.ref f) = true) (hb : KB4 X.K fd k1 k2 k3 k4)
    (hkw : PK X kws tk) (hall : (backToKw pos (keywordEach kws X.env)).all (·.1.isSome) = true := by rfl) (hks : (backToKw pos (keywordEach kws X.env)).filterMap (·.1) = [k4, k3, k2, k1] := by rfl) (hdb : (x == ("__debug__" : Str)) = false := by decide)
    (hpl : ((backTo pos (starEach [] X.env)).any (·.1) || (backToKw pos (keywordEach kws X.env)).any (·.1.isNone)) = false := by rfl) :
    PE X (.Call (.Name x p) [] kws pos) (tCallK4 sp tk) := by
  refine ⟨fun pins s σ H Q I h => ?_⟩
  refine wpAny_Call_Name_kw (ld_glob I hg hm ?_ hdb)
  refine PySem.W.callWith_KW0 (h₀ := X.base) I.ok.mod.kin hk hall ?_ hpl
  refine thn (hkw.run pos pins s σ H _ I h) fun ws s2 ⟨zs, H2, I2, rz, w, z, y, x, ez, q2⟩ => ⟨I2.kIn, ?_⟩
  subst ez
  cases rz with
  | cons r1 rt =>
    cases rt with
    | cons r2 rt =>
      cases rt with
      | cons r3 rt =>
        cases rt with
        | cons r4 rt =>
          cases rt
          rename_i d1 c1 b1 a1 _
          rw [hks]
          refine wpAny_call (codeAny_mono (F.run X.A X.stack s2 H2 ⟨[], [(k4, d1), (k3, c1), (k2, b1), (k1, a1)]⟩ [a1, b1, c1, d1] [x, y, z, w] Q E0 hr I2.env0 (hb.to s2 a1 b1 c1 d1) (.cons r4 (.cons r3 (.cons r2 (.cons r1 .nil)))) q2) fun r s' hq => ?_)
          cases r with
          | error e => exact (pass0 (X := X)) pins σ H2 s2 e s' I2 hq
          | ok fl =>
            cases fl with
            | ret u => exact I2.after hq
            | next => exact False.elim hq
            | brk => exact False.elim hq
            | cont => exact False.elim hq
end L2
namespace Toy
open PySem L2 PyProof.Rows
abbrev sCv : Stmt := top 55
abbrev sIv : Stmt := top 31
abbrev sSpt : Stmt := top 59
/-! ### a value of a kind of a book -/
structure ValOk (d e x : PyData) (n : Nat) : Prop where
  bk : BkK (bkOf d)
  few : (bkOf d).length ≤ 1000
  k : kOk e
  pl : plB x = true
  val : Val numOk (bkOf d) n e x
  nn : n ≤ 1000
theorem ValOk.c {d e x : PyData} {n : Nat} (h : ValOk d e x n) : plC (e, x) := ⟨st_pl _ h.k.1, h.pl⟩
def spCv (K : PySem.W.Frag) : Sp := fun vs H Q _ => ∃ (t : Addr) (u v : V) (d e x : PyData) (n : Nat), vs = [.ref t, u, v] ∧ Tab K H t (bkOf d) ∧ Dq K H u e ∧ Dq K H v x ∧ ValOk d e x n ∧ ∀ H', Same H H' → Q .non H'
def spIv (K : PySem.W.Frag) (m : Nat) : Sp := fun vs H Q _ => ∃ (v u y : V) (d e x : PyData) (n : Nat), vs = [v, u, y] ∧ BookAt K m H v d ∧ KindAt K m H u d e ∧ Dq K H y x ∧ ValOk d e x n ∧ ∀ H', Same H H' → Q (.bl true) H'
def spSpt (K : PySem.W.Frag) (m : Nat) : Sp := fun vs H Q _ => ∃ (v u z y : V) (d e x : PyData) (h : Ho) (n : Nat), vs = [v, u, z, y] ∧ BookAt K m H v d ∧ KindAt K m H u d e ∧ HoleAt K m H z d h ∧ Dq K H y x ∧ ValOk d e x n ∧
  ∀ r H', Same H H' → Dq K H' r (.tuple ((roads (bkOf d) (hoD h) n e x).map pathD)) → Q r H'
section
variable {P : Program} {w : World} {K : PySem.W.Frag} {mg : Str → Option Value} {base : Heap} {m : Nat} {C : Addr}
theorem scCv : FnScope ["table", "kind", "value"] ["table", "kind", "value"] (defScope sCv) := ⟨rfl, rfl, rfl, by decide +kernel, rfl, by decide +kernel, by decide +kernel⟩
theorem scIv : FnScope ["book", "kind", "value", "table"] ["book", "kind", "value"] (defScope sIv) := ⟨rfl, rfl, rfl, by decide +kernel, rfl, by decide +kernel, by decide +kernel⟩
theorem scSpt : FnScope ["book", "kind", "hole", "value", "table"] ["book", "kind", "hole", "value"] (defScope sSpt) := ⟨rfl, rfl, rfl, by decide +kernel, rfl, by decide +kernel, by decide +kernel⟩
theorem ok_checkvalue {f gH gL : Addr} {fd dH : FuncData} (F : Fun K "check_value" "check_value" sCv f fd) (LM : mg "is_whole_number" = some (.ref gL)) (HK : Gv P w K mg base 3 "has_kind" gH dH ["table", "kind", "value", "is_thing"] (spHk K numOk gL)) : FnOk P w K mg base CX0 4 f fd ["table", "kind", "value"] (spCv K) := by
  refine F.ok scCv (fun vs H Q E h => ?_) (fun cdv A outer s H vs Q E hr h => ?_)
  · obtain ⟨t, u, v, d, e, x, n, rfl, _⟩ := h
    rfl
  obtain ⟨t, u, v, d, e, x, n, rfl, tb, hu, hv, ok, q⟩ := h
  refine ⟨_, (pss_one (ps_if (pt_not (pt_val (pe_call HK.ok hr rfl HK.m HK.k HK.b .nil pass0 (pa_cons (pv 0) (pa_cons (pv 1) (pa_cons (pv 2) (pa_cons (pe_glob (v := .ref gL) rfl LM rfl) pa_nil))))))) (pss_one ps_never) pss_nil)), ?_⟩
  refine ⟨_, rfl, _, rfl, _, rfl, t, u, v, bkOf d, n, e, x, rfl, tb, ok.few, ok.bk.p, hu, hv, ok.c, ok.val, ok.nn, fun H1 s1 => ⟨_, rfl, iteF ?_⟩⟩
  exact q H1 s1
theorem ok_isvalue {f gT gC gH gL : Addr} {fd dT dC dH : FuncData} (F : Fun K "is_value" "is_value" sIv f fd) (LM : mg "is_whole_number" = some (.ref gL)) (TO : GvX P w K mg base 64 "table_of" gT dT ["book"] (spTo K m C)) (CK : Gv P w K mg base 6 "check_kind" gC dC ["table", "kind"] (spCk K m)) (HK : Gv P w K mg base 3 "has_kind" gH dH ["table", "kind", "value", "is_thing"] (spHk K numOk gL)) : FnOk P w K mg base CX0 65 f fd ["book", "kind", "value"] (spIv K m) := by
  refine F.ok scIv (fun vs H Q E h => ?_) (fun cdv A outer s H vs Q E hr h => ?_)
  · obtain ⟨v, u, y, d, e, x, n, rfl, _⟩ := h
    rfl
  obtain ⟨v, u, y, d, e, x, n, rfl, ⟨hd, tp, ht, hdp, ok⟩, hk, hy, vo, q⟩ := h
  have hr6 : Room 6 (A.deeper _) := hr.mono (by omega)
  have hr3 : Room 3 (A.deeper _) := hr.mono (by omega)
  refine ⟨_, (pss_cons (ps_set (i := 3) scIv.nd rfl (.inl rfl) (pe_call TO.ok hr rfl TO.m TO.k TO.b .nil passL (pa_cons (pv 0) pa_nil)))
    (pss_cons (ps_expr (pe_call CK.ok hr6 rfl CK.m CK.k CK.b .nil pass0 (pa_cons (pv 3) (pa_cons (pv 1) pa_nil))))
    (pss_one (ps_ret (pe_call HK.ok hr3 rfl HK.m HK.k HK.b .nil pass0 (pa_cons (pv 3) (pa_cons (pv 1) (pa_cons (pv 2) (pa_cons (pe_glob (v := .ref gL) rfl LM rfl) pa_nil))))))))), ?_⟩
  refine ⟨_, rfl, v, d, rfl, hd, tp, ht, hdp, fun _ t H1 s1 tb => ?_, fun e => by rw [ok] at e; cases e⟩
  obtain ⟨h1, h2, h3, h4⟩ := hk.on s1
  refine ⟨_, rfl, _, rfl, t, u, e, bkOf d, rfl, tb, h1, h2, h3, h4, fun H2 s2 => ?_⟩
  exact ⟨_, rfl, _, rfl, _, rfl, t, u, y, bkOf d, n, e, x, rfl, tb.on s2, vo.few, vo.bk.p, Dq.mono s2 _ _ h1, Dq.mono (s1.trans s2) _ _ hy, vo.c, vo.val, vo.nn, fun H3 s3 => q H3 ((s1.trans s2).trans s3)⟩
theorem ok_spots {f gT gC gP : Addr} {fd dT dC dP : FuncData} (F : Fun K "spots" "spots" sSpt f fd) (TU : mg "tuple" = none) (TH : Gv P w K mg base 66 "table_for_hole" gT dT ["book", "kind", "hole"] (spTh K m)) (CV : Gv P w K mg base 4 "check_value" gC dC ["table", "kind", "value"] (spCv K)) (PTO : Gv P w K mg base 4 "paths_to" gP dP ["table", "kind", "hole", "value"] (spPto K numOk)) : FnOk P w K mg base CX0 67 f fd ["book", "kind", "hole", "value"] (spSpt K m) := by
  refine F.ok scSpt (fun vs H Q E h => ?_) (fun cdv A outer s H vs Q E hr h => ?_)
  · obtain ⟨v, u, z, y, d, e, x, h, n, rfl, _⟩ := h
    rfl
  obtain ⟨v, u, z, y, d, e, x, h, n, rfl, hb, hk, hh, hy, vo, q⟩ := h
  have hr4 : Room 4 (A.deeper _) := hr.mono (by omega)
  refine ⟨_, (pss_cons (ps_set (i := 4) scSpt.nd rfl (.inl rfl) (pe_call TH.ok hr rfl TH.m TH.k TH.b .nil pass0 (pa_cons (pv 0) (pa_cons (pv 1) (pa_cons (pv 2) pa_nil)))))
    (pss_cons (ps_expr (pe_call CV.ok hr4 rfl CV.m CV.k CV.b .nil pass0 (pa_cons (pv 4) (pa_cons (pv 1) (pa_cons (pv 3) pa_nil)))))
    (pss_one (ps_ret (pe_callTy call_tupleN rfl TU (by decide +kernel) (pa_cons (pe_call PTO.ok hr4 rfl PTO.m PTO.k PTO.b .nil pass0 (pa_cons (pv 4) (pa_cons (pv 1) (pa_cons (pv 2) (pa_cons (pv 3) pa_nil))))) pa_nil)))))), ?_⟩
  refine ⟨_, rfl, _, rfl, _, rfl, v, u, z, d, e, h, rfl, hb, hk, hh, fun t H1 s1 tb => ?_⟩
  obtain ⟨k1, k2, k3, k4⟩ := hk.on s1
  obtain ⟨h1, h2, h3, h4⟩ := hh.on s1
  refine ⟨_, rfl, _, rfl, _, rfl, t, u, y, d, e, x, n, rfl, tb, k1, Dq.mono s1 _ _ hy, vo, fun H2 s2 => ?_⟩
  have s12 := s1.trans s2
  refine ⟨_, rfl, _, rfl, _, rfl, _, rfl, t, u, z, y, bkOf d, n, e, x, h, rfl, tb.on s2, vo.bk, Dq.mono s2 _ _ k1, Dq.mono s2 _ _ h1, h2, Dq.mono s12 _ _ hy, vo.k, vo.pl, vo.val, vo.nn, fun l H3 ws s3 hl hD => ?_⟩
  refine ⟨l, ws, rfl, .inl ⟨SqL.of hl, fun p o hp ho => ?_⟩⟩
  have s4 := same_new hp (.frz o (.tup ws))
  exact q _ _ ((s12.trans s3).trans s4) (.tup (SqP.of upd_same ho) (DqAll.mono s4 _ _ hD))
end
end Toy
set_option Elab.async false
set_option linter.all false
set_option maxRecDepth 100000
set_option maxHeartbeats 4000000
namespace Toy
open PySem L2 PyProof.Rows
abbrev sDa : Stmt := top 77
/-! ### a value drawn -/
/-- a kind of the book, of its form -/
def FormIn (bk : List (Str × PyData)) (d : PyData) : Prop := fB 24 d = true ∧ ∀ x ∈ (ms 24 d).2.2, (lookB bk x).isSome = true
def BkF (bk : List (Str × PyData)) : Prop := ∀ x k, lookB bk x = some k → FormIn bk k
theorem FormIn.two {bk : List (Str × PyData)} {w : Str} {a b : PyData} (h : FormIn bk (.tuple [.str w, a, b])) : FormIn bk a ∧ FormIn bk b := by
  obtain ⟨f, n⟩ := h
  rcases fB_cases f with ⟨w', e, _⟩ | ⟨w', x, e, _, _⟩ | ⟨m, w', a', b', em, e, _, ha, hb⟩
  · cases e
  · cases e
  · cases e
    obtain rfl : m = 23 := by omega
    rw [ms_row] at n
    exact ⟨⟨fB_fuel ha (by decide), fun x mx => n x (List.mem_append.mpr (.inl (by rw [ms_fuel ha (by decide : 23 ≤ 24)] at mx; exact mx)))⟩, ⟨fB_fuel hb (by decide), fun x mx => n x (List.mem_append.mpr (.inr (by rw [ms_fuel hb (by decide : 23 ≤ 24)] at mx; exact mx)))⟩⟩
theorem FormIn.head {bk : List (Str × PyData)} {d : PyData} (h : FormIn bk d) : ∃ w r, d = .tuple (.str w :: r) := by
  rcases fB_cases h.1 with ⟨w, e, _⟩ | ⟨w, x, e, _, _⟩ | ⟨m, w, a, b, em, e, _, ha, hb⟩
  · exact ⟨w, _, e⟩
  · exact ⟨w, _, e⟩
  · exact ⟨w, _, e⟩
abbrev lLeaf : List Str := ["thing", "unit"]
def leafB (w : Str) : Bool := inV (.str w) (lLeaf.map V.str)
theorem leaf_two {bk : List (Str × PyData)} {w : Str} {r : List PyData} (h : FormIn bk (.tuple (.str w :: r))) (l : leafB w = true) : r = [] ∧ w ≠ "none" := by
  have m : w ∈ lLeaf := inV_of (ws := lLeaf) l
  have m2 : w = "thing" ∨ w = "unit" := by
    rcases List.mem_cons.mp m with e | m
    · exact .inl e
    · exact .inr (List.mem_singleton.mp m)
  rcases fB_cases h.1 with ⟨w', e, _⟩ | ⟨w', x, e, hw, _⟩ | ⟨m, w', a, b, em, e, hw, ha, hb⟩
  · injection e with e
    injection e with e1 e2
    refine ⟨e2, fun z => ?_⟩
    rcases m2 with q | q <;> (rw [z] at q; exact absurd q (by decide +kernel))
  · injection e with e
    injection e with e1 e2
    injection e1 with e1
    subst e1
    rcases m2 with q | q <;> (rw [q] at hw; exact absurd hw (by decide +kernel))
  · injection e with e
    injection e with e1 e2
    injection e1 with e1
    subst e1
    rcases m2 with q | q <;> (rw [q] at hw; exact absurd hw (by decide +kernel))
theorem leaf_wt {hw : List (Str × Int)} {w : Str} (h : w ≠ "none") (n : Nat) : wt hw n (.tuple [.str w]) = 1 := by
  rw [wt_one, if_neg]
  intro z
  have z := of_decide_eq_true z
  injection z with z
  exact h z
theorem mnI_small {x n : Int} (h : mnI (10 ^ 9) x ≤ n) (hn : n ≤ 1000) : x ≤ n := by
  unfold mnI at h
  split at h
  · exact h
  · have : (1000 : Int) < 10 ^ 9 := by decide
    omega
theorem iteC {c : Bool} {i j : Int} {σ : L2.St} {H : Hp} {Q : VK} (h : ∀ s : Int, s = (if c = true then i else j) → Q (.int s) H) : if c = true then tC (.int i) σ H Q else tC (.int j) σ H Q := by
  cases c
  · exact h _ rfl
  · exact h _ rfl
def spDa (K : PySem.W.Frag) (N : Nat) : Sp := fun vs H Q _ => ∃ (wl t hv : Addr) (v : V) (n : Nat) (G : Hp) (bk : List (Str × PyData)) (acc : List (Key × V)) (hw : List (Str × Int)) (d : PyData), vs = [.ref wl, .ref t, .ref hv, v, .int (n : Nat)] ∧ n ≤ N ∧ n ≤ 1000 ∧ Stt wl G H ∧ Tab K G t bk ∧ G hv = some (.dK acc) ∧ Paired HvR acc hw ∧ Fal bk hw ∧ BkF bk ∧ FormIn bk d ∧ Dq K G v d ∧ wt hw 24 d ≤ n ∧
  ∀ (v' : V) (H' G' : Hp) (x : PyData), Gr wl G H G' H' → Dq K G' v' x → Val numOk bk n d x → Q v' H'
section
variable {P : Program} {w : World} {K : PySem.W.Frag} {mg : Str → Option Value} {base : Heap}
theorem Fal.names {bk : List (Str × PyData)} {hw : List (Str × Int)} (F : Fal bk hw) {x : Str} (h : (lookB bk x).isSome = true) : (lookN hw x).isSome = true := by
  obtain ⟨p, mp, rfl⟩ := look_mem1 h
  obtain ⟨k, e, _⟩ := F.all p mp
  rw [e]
  rfl
theorem Fal.pos {bk : List (Str × PyData)} {hw : List (Str × Int)} (F : Fal bk hw) {d : PyData} (h : FormIn bk d) : 1 ≤ wt hw 24 d := wt_pos 24 d h.1 fun x mx => by
  obtain ⟨p, mp, rfl⟩ := look_mem1 (h.2 x mx)
  obtain ⟨k, e, g, _⟩ := F.all p mp
  exact ⟨k, e, g⟩
theorem scDa : FnScope ["spring", "of", "heavy", "form", "left", "word", "lead", "last", "more", "one", "side"] ["spring", "of", "heavy", "form", "left"] (defScope sDa) := ⟨rfl, rfl, rfl, by decide +kernel, rfl, by decide +kernel, by decide +kernel⟩
theorem ok_datum {f gD gN gW : Addr} {fd dD dN dW : FuncData} {N k : Nat} (hk : 25 ≤ k) (F : Fun K "_law_datum" "_law_datum" sDa f fd) (D : Gv P w K mg base 1 "_law_draw" gD dD ["spring", "top"] spDraw) (NU : Gv P w K mg base 3 "_law_number" gN dN ["spring"] spNu) (WT : Gv P w K mg base 25 "_law_weight" gW dW ["heavy", "form"] (spWt K 24))
    (R : Gv P w K mg base k "_law_datum" f fd ["spring", "of", "heavy", "form", "left"] (spDa K N)) : FnOk P w K mg base CX0 (k + 1) f fd ["spring", "of", "heavy", "form", "left"] (spDa K (N + 1)) := by
  refine F.ok scDa (fun vs H Q E h => ?_) (fun cdv A outer s H vs Q E hr h => ?_)
  · obtain ⟨wl, t, hv, v, n, G, bk, acc, hw, d, rfl, _⟩ := h
    rfl
  obtain ⟨wl, t, hv, v, n, G, bk, acc, hw, d, rfl, nN, n9, st, tb, hh, hp, fal, bf, fi, hd, wle, q⟩ := h
  have hu1 := Nat.lt_of_le_of_lt (Nat.add_le_add_left (by decide : 1 ≤ 64) _) hr.units
  have hr1 : Room 1 (A.deeper _) := hr.mono (by omega)
  have hr3 : Room 3 (A.deeper _) := hr.mono (by omega)
  have hrw : Room 25 (A.deeper _) := hr.mono hk
  have hrR : Room k (A.deeper _) := hr
  have z3 : ∀ {k : Nat}, k ≤ 20 → k ≤ sizeLine := fun h => Nat.le_trans h (by decide)
  have n1 : 1 ≤ n := by
    have := fal.pos fi
    omega
  have hdH := Dq.mono st.sub _ _ hd
  refine ⟨_, (pss_cons (ps_set (i := 5) scDa.nd rfl (.inl rfl) (pe_ix ix_tup (pv 3) pe_int (fun _ _ => rfl)))
    (pss_cons (ps_if (pt_cmpR op_in_seq (pv 5) (pe_tup (pa_cons pe_str (pa_cons pe_str pa_nil))) (by rfl)) (pss_one (ps_ret (pe_ifExp (pt_cmpR op_eq (pv 5) pe_str (nomark _)) (pe_call NU.ok hr3 rfl NU.m NU.k NU.b .nil pass0 (pa_cons (pv 0) pa_nil)) (pe_tupN pa_nil)))) pss_nil)
    (pss_cons (ps_if (pt_cmpR op_eq (pv 5) pe_str (nomark _)) (pss_one (ps_ret (pe_call R.ok hrR rfl R.m R.k R.b .nil pass0 (pa_cons (pv 0) (pa_cons (pv 1) (pa_cons (pv 2) (pa_cons (pe_dget hu1 (pv 1) (pe_ix ix_tup (pv 3) pe_int (fun _ _ => rfl)) (fun _ _ => rfl)) (pa_cons (pe_op op_sub (pv 4) pe_int) pa_nil)))))))) pss_nil)
    (pss_cons (ps_par (i := 6) (j := 7) rfl scDa.nd rfl rfl (by decide) rfl rfl (pa_cons (pe_call WT.ok hrw rfl WT.m WT.k WT.b .nil pass0 (pa_cons (pv 2) (pa_cons (pe_ix ix_tup (pv 3) pe_int (fun _ _ => rfl)) pa_nil))) (pa_cons (pe_call WT.ok hrw rfl WT.m WT.k WT.b .nil pass0 (pa_cons (pv 2) (pa_cons (pe_ix ix_tup (pv 3) pe_int (fun _ _ => rfl)) pa_nil))) pa_nil)) (by rfl))
    (pss_cons (ps_if (pt_cmpR op_eq (pv 5) pe_str (nomark _)) (pss_cons (ps_set (i := 8) scDa.nd rfl (.inl rfl) (pe_ifExp (pt_cmpR op_in_seq (pe_ix ix_tup (pe_ix ix_tup (pv 3) pe_int (fun _ _ => rfl)) pe_int (fun _ _ => rfl)) (pe_tup (pa_cons pe_str (pa_cons pe_str pa_nil))) (by rfl)) (pv 6) (pe_op op_sub (pe_op op_sub (pv 4) pe_int) (pv 7))))
    (pss_cons (ps_if (PW.pt (pw_and (pt_cmpR op_notIn_seq (pe_ix ix_tup (pe_ix ix_tup (pv 3) pe_int (fun _ _ => rfl)) pe_int (fun _ _ => rfl)) (pe_tup (pa_cons pe_str (pa_cons pe_str pa_nil))) (by rfl)) (pw_and1 (pt_cmpR op_notIn_seq (pe_ix ix_tup (pe_ix ix_tup (pv 3) pe_int (fun _ _ => rfl)) pe_int (fun _ _ => rfl)) (pe_tup (pa_cons pe_str (pa_cons pe_str pa_nil))) (by rfl))))) (pss_one (ps_set (i := 8) scDa.nd rfl (.inl rfl) (pe_op op_add (pv 6) (pe_call D.ok hr1 rfl D.m D.k D.b .nil pass0 (pa_cons (pv 0) (pa_cons (pe_op op_sub (pe_op op_sub (pv 4) (pv 6)) (pv 7)) pa_nil)))))) pss_nil)
    (pss_cons (ps_set (i := 9) scDa.nd rfl (.inl rfl) (pe_call R.ok hrR rfl R.m R.k R.b .nil pass0 (pa_cons (pv 0) (pa_cons (pv 1) (pa_cons (pv 2) (pa_cons (pe_ix ix_tup (pv 3) pe_int (fun _ _ => rfl)) (pa_cons (pv 8) pa_nil)))))))
    (pss_one (ps_ret (pe_tupN (pa_cons pe_str (pa_cons (pv 9) (pa_cons (pe_call R.ok hrR rfl R.m R.k R.b .nil pass0 (pa_cons (pv 0) (pa_cons (pv 1) (pa_cons (pv 2) (pa_cons (pe_ix ix_tup (pv 3) pe_int (fun _ _ => rfl)) (pa_cons (pe_op op_sub (pe_op op_sub (pv 4) pe_int) (pv 8)) pa_nil)))))) pa_nil))))))))) pss_nil)
    (pss_cons (ps_set (i := 10) scDa.nd rfl (.inl rfl) (pe_ifExp (pt_cmpR op_gt (pv 6) (pv 7) (nomark _)) pe_int pe_int))
    (pss_cons (ps_if (PW.pt (pw_or (pt_cmpR op_ge (pv 6) (pv 4) (nomark _)) (pw_or1 (pt_cmpR op_ge (pv 7) (pv 4) (nomark _))))) (pss_one (ps_set (i := 10) scDa.nd rfl (.inl rfl) (pe_ifExp (pt_cmpR op_lt (pv 6) (pv 4) (nomark _)) pe_int pe_int))) (pss_one (ps_if (pt_cmpR op_eq (pe_call D.ok hr1 rfl D.m D.k D.b .nil pass0 (pa_cons (pv 0) (pa_cons pe_int pa_nil))) pe_int (nomark _)) (pss_one (ps_set (i := 10) scDa.nd rfl (.inl rfl) (pe_op op_sub pe_int (pv 10)))) pss_nil)))
    (pss_one (ps_ret (pe_tupN (pa_cons (pe_ix ix_tup (pe_tup (pa_cons pe_str (pa_cons pe_str pa_nil))) (pv 10) (fun _ _ => rfl)) (pa_cons (pe_call R.ok hrR rfl R.m R.k R.b .nil pass0 (pa_cons (pv 0) (pa_cons (pv 1) (pa_cons (pv 2) (pa_cons (pe_ix ix_tup (pv 3) (pe_op op_add pe_int (pv 10)) (fun _ _ => rfl)) (pa_cons (pe_op op_sub (pv 4) pe_int) pa_nil)))))) pa_nil)))))))))))), ?_⟩
  rcases fB_cases fi.1 with ⟨w, rfl, hw3⟩ | ⟨w, x, rfl, hw1, _⟩ | ⟨m, w, a, b, en, rfl, hw2, ha, hb⟩
  · obtain ⟨ad, xs, rfl, hx, hA⟩ := dq_tuple hdH
    obtain ⟨x0, rs, rfl, g0, hA⟩ := dqAll_cons hA
    cases g0
    refine ⟨_, rfl, ad, _, 0, _, rfl, rfl, hx, atI_nat (j := 0) rfl, ?_⟩
    refine ⟨_, rfl, z3 (by show 2 ≤ 20; decide), fun t0 h0 => ?_⟩
    have g0' := Gr.same st (same_new h0 (.tup [.str "thing", .str "unit"]))
    refine ⟨t0, _, rfl, .inr (SqT.of upd_same), rfl, flat_strs lLeaf, _, rfl, ?_⟩
    obtain ⟨n', rfl⟩ : ∃ z, n = z + 1 := ⟨n - 1, by omega⟩
    rcases w_three hw3 with rfl | rfl | rfl
    · refine iteY (by decide +kernel) ⟨_, rfl, rfl, _, rfl, iteY (by decide +kernel) ?_⟩
      refine ⟨_, rfl, wl, rfl, (g0'.stt st).well, fun i H1 l1 l2 w1 b1 => ?_⟩
      exact q _ _ _ (.int i) (g0'.trans (Gr.stay (g0'.stt st) w1 b1)) (.int i) (.thing ⟨i, rfl, l1, l2⟩)
    · have e : wt hw 24 (.tuple [.str "none"]) = 10 ^ 9 := by
        rw [wt_one, if_pos (by decide +kernel)]
      rw [e] at wle
      have : (1000 : Int) < 10 ^ 9 := by decide
      omega
    · refine iteY (by decide +kernel) ⟨_, rfl, rfl, _, rfl, iteN (by decide +kernel) ?_⟩
      refine ⟨z3 (by show 0 ≤ 20; decide), fun p ob hp' hob => ?_⟩
      obtain ⟨g1, D1⟩ := Gr.tup (K := K) (vs := []) (ds := []) (g0'.stt st) hp' hob .nil
      exact q _ _ _ _ (g0'.trans g1) D1 .unit
  · obtain rfl := w1_eq hw1
    obtain ⟨ad, xs, rfl, hx, hA⟩ := dq_tuple hdH
    obtain ⟨x0, rs, rfl, g0, hA⟩ := dqAll_cons hA
    obtain ⟨x1, rs, rfl, g1, hA⟩ := dqAll_cons hA
    cases g0
    cases g1
    refine ⟨_, rfl, ad, _, 0, _, rfl, rfl, hx, atI_nat (j := 0) rfl, ?_⟩
    refine ⟨_, rfl, z3 (by show 2 ≤ 20; decide), fun t0 h0 => ?_⟩
    have s0 := same_new h0 (.tup [.str "thing", .str "unit"])
    have g0' := Gr.same st s0
    refine ⟨t0, _, rfl, .inr (SqT.of upd_same), rfl, flat_strs lLeaf, _, rfl, iteN (by decide +kernel) ?_⟩
    refine ⟨_, rfl, rfl, _, rfl, iteY (by decide +kernel) ?_⟩
    have ix := fi.2 x (show x ∈ [x] from List.mem_singleton.mpr rfl)
    obtain ⟨kvs, ht, pr⟩ := id tb
    rcases tab_look (x := x) pr with ⟨_, l0⟩ | ⟨v1, d1, e1, l1, D1⟩
    · rw [l0] at ix
      cases ix
    have gk := DGet.k (k := .inr x) ((g0'.stt st).sub _ _ ht)
    rw [e1] at gk
    obtain ⟨p, mp, pe1, pe2⟩ := look_mem l1
    obtain ⟨kx, ek, k1, k9, kf⟩ := fal.all p mp
    rw [pe1] at ek
    have ew : wt hw 24 (.tuple [.str "name", .str x]) = kx := by
      rw [wt_nm, ek]
      rfl
    rw [ew] at wle
    have f1 := bf _ _ l1
    have hb9 : (1000 : Int) < 10 ^ 9 := by decide
    have kf1 := kf 24 (by rw [pe2]; exact f1.1) (by omega)
    rw [pe2] at kf1
    have em : (V.int ((n : Int) - 1)) = .int ((n - 1 : Nat) : Int) := by
      congr 1
      omega
    refine ⟨_, rfl, _, rfl, _, rfl, _, rfl, _, rfl, ad, _, 1, _, rfl, rfl, s0.seqT hx, atI_nat (j := 1) rfl, t, v1, rfl, gk, _, rfl, _, _, rfl, rfl, wl, t, hv, v1, n - 1, G, bk, acc, hw, d1, (by show [V.ref wl, V.ref t, V.ref hv, v1, V.int ((n : Int) - 1)] = _; rw [em]), by omega, by omega, g0'.stt st, tb, hh, hp, fal, bf, f1, D1, by omega, fun v' H' G' y g' D' val => ?_⟩
    obtain ⟨n', rfl⟩ : ∃ z, n = z + 1 := ⟨n - 1, by omega⟩
    exact q _ _ _ _ (g0'.trans g') D' (.name l1 val)
  · obtain rfl : m = 23 := by omega
    have hdG := hd
    obtain ⟨ad, xs, rfl, hxG, hAG⟩ := dq_tuple hd
    obtain ⟨x0, rs, rfl, g0, hAG⟩ := dqAll_cons hAG
    obtain ⟨x1, rs, rfl, ga, hAG⟩ := dqAll_cons hAG
    obtain ⟨x2, rs, rfl, gb, hAG⟩ := dqAll_cons hAG
    obtain rfl := dqAll_nil hAG
    cases g0
    have hx := st.sub.seqT hxG
    obtain ⟨fa, fb⟩ := fi.two
    have pa' := fal.pos fa
    have pb' := fal.pos fb
    have ea : wt hw 23 a = wt hw 24 a := wt_fuel fa.1 ha
    have eb : wt hw 23 b = wt hw 24 b := wt_fuel fb.1 hb
    rw [wt_two, ea, eb] at wle
    have wle := mnI_small wle (by omega)
    refine ⟨_, rfl, ad, _, 0, _, rfl, rfl, hx, atI_nat (j := 0) rfl, ?_⟩
    refine ⟨_, rfl, z3 (by show 2 ≤ 20; decide), fun t0 h0 => ?_⟩
    have s0 := same_new h0 (.tup [.str "thing", .str "unit"])
    have g0' := Gr.same st s0
    have hx0 := s0.seqT hx
    have no : inV (V.str w) (lLeaf.map V.str) = false := by rcases w_two hw2 with z | z <;> rw [z] <;> decide +kernel
    have no1 : decide (V.str w = V.str "name") = false := by rcases w_two hw2 with z | z <;> rw [z] <;> decide +kernel
    refine ⟨t0, _, rfl, .inr (SqT.of upd_same), rfl, flat_strs lLeaf, _, rfl, iteN no ⟨_, rfl, rfl, _, rfl, iteN no1 ?_⟩⟩
    generalize upd H t0 (.tup [.str "thing", .str "unit"]) = H0 at s0 g0' hx0 ⊢
    have st0 := g0'.stt st
    refine ⟨_, rfl, _, rfl, ad, _, 1, _, rfl, rfl, hx0, atI_nat (j := 1) rfl, hv, x1, acc, hw, a, rfl, st0.sub _ _ hh, hp, Dq.mono st0.sub _ _ ga, fa.1, (fun x mx => fal.names (fa.2 x mx)), fun H1 s1 => ?_⟩
    have hx1 := s1.seqT hx0
    have g1 := g0'.trans (Gr.same st0 s1)
    have st1 := g1.stt st
    refine ⟨_, rfl, _, rfl, ad, _, 2, _, rfl, rfl, hx1, atI_nat (j := 2) rfl, hv, x2, acc, hw, b, rfl, st1.sub _ _ hh, hp, Dq.mono st1.sub _ _ gb, fb.1, (fun x mx => fal.names (fb.2 x mx)), fun H2 s2 => ?_⟩
    have hx2 := s2.seqT hx1
    have g2 := g1.trans (Gr.same st1 s2)
    have st2 := g2.stt st
    refine ⟨_, _, rfl, ?_⟩
    obtain ⟨lead, hlead⟩ : ∃ z, z = wt hw 24 a := ⟨_, rfl⟩
    obtain ⟨last, hlast⟩ : ∃ z, z = wt hw 24 b := ⟨_, rfl⟩
    rw [← hlead] at wle pa' ⊢
    rw [← hlast] at wle pb' ⊢
    rcases w_two hw2 with y | y
    · injection y with y
      subst y
      rw [show wE "pair" = false from wE_p, if_neg Bool.false_ne_true] at wle
      obtain ⟨wa, ra, rfl⟩ := fa.head
      obtain ⟨wb, rb, rfl⟩ := fb.head
      refine ⟨_, rfl, rfl, _, rfl, iteY (by decide +kernel) ?_⟩
      obtain ⟨aa, xa, rfl, hxaG, hAa⟩ := dq_tuple ga
      obtain ⟨ya, rsa, rfl, ja, _⟩ := dqAll_cons hAa
      cases ja
      obtain ⟨ab, xb, rfl, hxbG, hAb⟩ := dq_tuple gb
      obtain ⟨yb, rsb, rfl, jb, _⟩ := dqAll_cons hAb
      cases jb
      have hxa2 := st2.sub.seqT hxaG
      have hxb2 := st2.sub.seqT hxbG
      refine ⟨_, rfl, ad, _, 1, _, rfl, rfl, hx2, atI_nat (j := 1) rfl, aa, _, 0, _, rfl, rfl, hxa2, atI_nat (j := 0) rfl, z3 (by show 2 ≤ 20; decide), fun t1 h1 => ?_⟩
      have s3 := same_new h1 (.tup [.str "thing", .str "unit"])
      refine ⟨t1, _, rfl, .inr (SqT.of upd_same), rfl, flat_strs lLeaf, _, rfl, ?_⟩
      have hx3 := s3.seqT hx2
      have hxa3 := s3.seqT hxa2
      have hxb3 := s3.seqT hxb2
      have g3 := g2.trans (Gr.same st2 s3)
      generalize upd H2 t1 (.tup [.str "thing", .str "unit"]) = H3 at s3 hx3 hxa3 hxb3 g3 ⊢
      have st3 := g3.stt st
      refine joinIH (S := fun m H' => lead ≤ m ∧ m ≤ n - 1 - last ∧ Gr wl G H G H') ?fin (fun fin => by
        refine ite2 ?la ?na
        case na =>
          intro na
          have na : leafB wa = false := Bool.eq_false_iff.mpr na
          refine ⟨_, rfl, _, _, rfl, rfl, _, rfl, _, _, rfl, rfl, ?_⟩
          refine ⟨_, rfl, ad, _, 1, _, rfl, rfl, hx3, atI_nat (j := 1) rfl, aa, _, 0, _, rfl, rfl, hxa3, atI_nat (j := 0) rfl, z3 (by show 2 ≤ 20; decide), fun t2 h2 => ?_⟩
          have s4 := same_new h2 (.tup [.str "thing", .str "unit"])
          refine ⟨t2, _, rfl, .inr (SqT.of upd_same), rfl, flat_strs lLeaf, _, rfl, iteY (by show (!leafB wa) = true; rw [na]; rfl) ?_⟩
          have g4 := g3.trans (Gr.same st3 s4)
          have hx4 := s4.seqT hx3
          have hxb4 := s4.seqT hxb3
          generalize upd H3 t2 (.tup [.str "thing", .str "unit"]) = H4 at s4 g4 hx4 hxb4 ⊢
          have st4 := g4.stt st
          refine ⟨_, rfl, ad, _, 2, _, rfl, rfl, hx4, atI_nat (j := 2) rfl, ab, _, 0, _, rfl, rfl, hxb4, atI_nat (j := 0) rfl, z3 (by show 2 ≤ 20; decide), fun t3 h3 => ?_⟩
          have s5 := same_new h3 (.tup [.str "thing", .str "unit"])
          refine ⟨t3, _, rfl, .inr (SqT.of upd_same), rfl, flat_strs lLeaf, _, rfl, ?_⟩
          have g5 := g4.trans (Gr.same st4 s5)
          generalize upd H4 t3 (.tup [.str "thing", .str "unit"]) = H5 at s5 g5 ⊢
          have st5 := g5.stt st
          refine ite2 ?y2 ?n2
          case y2 =>
            intro _
            refine ⟨_, rfl, _, rfl, _, rfl, _, rfl, _, _, rfl, rfl, _, rfl, _, _, rfl, rfl, wl, (n : Int) - lead - last, rfl, by omega, by omega, st5.well, fun f0 H6 l0 g0 w6 b6 => ⟨_, _, rfl, rfl, ?_⟩⟩
            obtain ⟨m, hm⟩ : ∃ m, m = lead + f0 := ⟨_, rfl⟩
            show gName 8 (V.int (lead + f0)) _ _ _
            rw [← hm]
            exact fin m H6 ⟨by omega, by omega, g5.trans (Gr.stay st5 w6 b6)⟩
          case n2 =>
            intro _
            exact fin _ H5 ⟨by omega, by omega, g5⟩
        case la =>
          intro la
          have la : leafB wa = true := la
          refine ⟨_, rfl, ?_⟩
          refine ⟨_, rfl, ad, _, 1, _, rfl, rfl, hx3, atI_nat (j := 1) rfl, aa, _, 0, _, rfl, rfl, hxa3, atI_nat (j := 0) rfl, z3 (by show 2 ≤ 20; decide), fun t2 h2 => ?_⟩
          have s4 := same_new h2 (.tup [.str "thing", .str "unit"])
          refine ⟨t2, _, rfl, .inr (SqT.of upd_same), rfl, flat_strs lLeaf, _, rfl, iteN (by show (!leafB wa) = false; rw [la]; rfl) (iteF ?_)⟩
          exact fin _ _ ⟨by omega, by omega, g3.trans (Gr.same st3 s4)⟩)
      rintro m0 H5 ⟨l1, l2, g5⟩
      have st5 := g5.stt st
      obtain ⟨m, rfl⟩ : ∃ z : Nat, m0 = (z : Int) := ⟨m0.toNat, by omega⟩
      refine ⟨_, rfl, _, rfl, _, rfl, _, rfl, ad, _, 1, _, rfl, rfl, st5.sub.seqT hxG, atI_nat (j := 1) rfl, _, rfl, wl, t, hv, .ref aa, m, G, bk, acc, hw, _, rfl, by omega, by omega, st5, tb, hh, hp, fal, bf, fa, ga, by omega, fun v6 H6 G6 y6 g6 D6 val6 => ?_⟩
      have st6 := g6.stt st5
      have g56 := g5.trans g6
      have em : (V.int ((n : Int) - 1 - (m : Int))) = .int ((n - 1 - m : Nat) : Int) := by
        congr 1
        omega
      refine ⟨_, rfl, _, rfl, _, rfl, _, rfl, _, rfl, ad, _, 2, _, rfl, rfl, st6.sub.seqT (g6.gg.seqT hxG), atI_nat (j := 2) rfl, _, rfl, _, _, rfl, rfl, _, rfl, _, _, rfl, rfl, wl, t, hv, .ref ab, n - 1 - m, G6, bk, acc, hw, _, (by show [V.ref wl, V.ref t, V.ref hv, V.ref ab, V.int ((n : Int) - 1 - (m : Int))] = _; rw [em]), by omega, by omega, st6, tb.on g6.gg, g6.gg _ _ hh, hp, fal, bf, fb, g6.dq gb, by omega, fun v7 H7 G7 y7 g7 D7 val7 => ?_⟩
      refine ⟨z3 (by show 3 ≤ 20; decide), fun p ob hp' hob => ?_⟩
      obtain ⟨g8, D8⟩ := Gr.tup (K := K) (vs := [.str "pair", v6, v7]) (ds := [.str "pair", y6, y7]) (g7.stt st6) hp' hob (.cons (.str _) (.cons (g7.dq D6) (.cons D7 .nil)))
      exact q _ _ _ _ ((g56.trans g7).trans g8) D8 (.pair val6 val7 (by omega))
    · injection y with y
      subst y
      rw [wE_e, if_pos rfl] at wle
      have wmin : lead ≤ n - 1 ∨ last ≤ n - 1 := by
        unfold mnI at wle
        split at wle <;> omega
      refine ⟨_, rfl, rfl, _, rfl, iteN (by decide +kernel) ?_⟩
      refine ⟨_, rfl, _, rfl, _, _, rfl, rfl, _, rfl, iteC (fun s0 hs0 => ?_)⟩
      have s01 : s0 = 0 ∨ s0 = 1 := by
        rw [hs0]
        split
        · exact .inl rfl
        · exact .inr rfl
      refine joinIH (S := fun m H' => ((m = 0 ∧ lead ≤ n - 1) ∨ (m = 1 ∧ last ≤ n - 1)) ∧ Gr wl G H G H') ?fin2 (fun fin => by
        refine ⟨_, rfl, _, rfl, _, _, rfl, rfl, _, rfl, ?_⟩
        refine ite2 (fun c1 => ?_) (fun c1 => ?_)
        · refine ⟨_, rfl, _, rfl, _, _, rfl, rfl, _, rfl, iteC (fun s2 hs2 => ?_)⟩
          refine fin s2 H2 ⟨?_, g2⟩
          by_cases c : decide (lead < (n : Int)) = true
          · rw [if_pos c] at hs2
            have := of_decide_eq_true c
            exact .inl ⟨hs2, by omega⟩
          · rw [if_neg c] at hs2
            have := of_decide_eq_false (Bool.eq_false_iff.mpr c)
            exact .inr ⟨hs2, by omega⟩
        · have c1 := of_decide_eq_false (Bool.eq_false_iff.mpr c1)
          refine ⟨_, rfl, _, rfl, _, _, rfl, rfl, _, rfl, ?_⟩
          refine ite2 (fun c2 => ?_) (fun c2 => ?_)
          · refine ⟨_, rfl, _, rfl, _, _, rfl, rfl, _, rfl, iteC (fun s2 hs2 => ?_)⟩
            refine fin _ H2 ⟨?_, g2⟩
            by_cases c : decide (lead < (n : Int)) = true
            · rw [if_pos c] at hs2
              have := of_decide_eq_true c
              exact .inl ⟨hs2, by omega⟩
            · rw [if_neg c] at hs2
              have := of_decide_eq_false (Bool.eq_false_iff.mpr c)
              exact .inr ⟨hs2, by omega⟩
          · have c2 := of_decide_eq_false (Bool.eq_false_iff.mpr c2)
            refine ⟨_, rfl, wl, 6, rfl, by decide, by decide, st2.well, fun f0 H5 l0 g0 w5 b5 => ⟨rfl, _, rfl, ?_⟩⟩
            have g5 := g2.trans (Gr.stay st2 w5 b5)
            refine ite2 (fun c3 => ?_) (fun c3 => ?_)
            · refine ⟨_, rfl, _, _, rfl, rfl, ?_⟩
              refine fin _ H5 ⟨?_, g5⟩
              rcases s01 with e | e
              · exact .inr ⟨by omega, by omega⟩
              · exact .inl ⟨by omega, by omega⟩
            · refine fin _ H5 ⟨?_, g5⟩
              rcases s01 with e | e
              · exact .inl ⟨by omega, by omega⟩
              · exact .inr ⟨by omega, by omega⟩)
      have em : (V.int ((n : Int) - 1)) = .int ((n - 1 : Nat) : Int) := by
        congr 1
        omega
      obtain ⟨n', en'⟩ : ∃ z, n = z + 1 := ⟨n - 1, by omega⟩
      rintro s H5 ⟨⟨rfl, lw⟩ | ⟨rfl, lw⟩, g5⟩
      · have st5 := g5.stt st
        refine ⟨z3 (by show 2 ≤ 20; decide), fun t2 h2 => ⟨_, rfl, t2, _, 0, _, rfl, rfl, SqT.of upd_same, atI_nat (j := 0) rfl, ?_⟩⟩
        have g6 := g5.trans (Gr.same st5 (same_new h2 (.tup [.str "left", .str "right"])))
        have st6 := g6.stt st
        refine ⟨_, rfl, _, rfl, _, rfl, _, rfl, _, rfl, _, _, rfl, rfl, ad, _, 1, _, rfl, rfl, st6.sub.seqT hxG, atI_nat (j := 1) rfl, _, rfl, _, _, rfl, rfl, wl, t, hv, x1, n - 1, G, bk, acc, hw, a, (by show [V.ref wl, V.ref t, V.ref hv, x1, V.int ((n : Int) - 1)] = _; rw [em]), by omega, by omega, st6, tb, hh, hp, fal, bf, fa, ga, by omega, fun v7 H7 G7 y7 g7 D7 val7 => ?_⟩
        refine ⟨z3 (by show 2 ≤ 20; decide), fun p ob hp' hob => ?_⟩
        obtain ⟨g8, D8⟩ := Gr.tup (K := K) (vs := [.str "left", v7]) (ds := [.str "left", y7]) (g7.stt st6) hp' hob (.cons (.str _) (.cons D7 .nil))
        refine q _ _ _ _ ((g6.trans g7).trans g8) D8 ?_
        rw [en'] at val7 ⊢
        exact .left val7
      · have st5 := g5.stt st
        refine ⟨z3 (by show 2 ≤ 20; decide), fun t2 h2 => ⟨_, rfl, t2, _, 1, _, rfl, rfl, SqT.of upd_same, atI_nat (j := 1) rfl, ?_⟩⟩
        have g6 := g5.trans (Gr.same st5 (same_new h2 (.tup [.str "left", .str "right"])))
        have st6 := g6.stt st
        refine ⟨_, rfl, _, rfl, _, rfl, _, rfl, _, rfl, _, _, rfl, rfl, ad, _, 2, _, rfl, rfl, st6.sub.seqT hxG, atI_nat (j := 2) rfl, _, rfl, _, _, rfl, rfl, wl, t, hv, x2, n - 1, G, bk, acc, hw, b, (by show [V.ref wl, V.ref t, V.ref hv, x2, V.int ((n : Int) - 1)] = _; rw [em]), by omega, by omega, st6, tb, hh, hp, fal, bf, fb, gb, by omega, fun v7 H7 G7 y7 g7 D7 val7 => ?_⟩
        refine ⟨z3 (by show 2 ≤ 20; decide), fun p ob hp' hob => ?_⟩
        obtain ⟨g8, D8⟩ := Gr.tup (K := K) (vs := [.str "right", v7]) (ds := [.str "right", y7]) (g7.stt st6) hp' hob (.cons (.str _) (.cons D7 .nil))
        refine q _ _ _ _ ((g6.trans g7).trans g8) D8 ?_
        rw [en'] at val7 ⊢
        exact .right val7
end
end Toy
set_option Elab.async false
set_option linter.all false
set_option maxRecDepth 100000
set_option maxHeartbeats 4000000
namespace Toy
open PySem L2 PyProof.Rows
abbrev sSd : Stmt := top 79
abbrev sRo : Stmt := top 80
/-! ### the law's own roads -/
def spSd (K : PySem.W.Frag) : Sp := fun vs H Q _ => ∃ (v : V) (s : Str) (r : List PyData), vs = [v] ∧ Dq K H v (.tuple (.str s :: r)) ∧ ∀ i : Int, i = (if sideD s = true then 1 else 2) → Q (.int i) H
def spRo (K : PySem.W.Frag) (N : Nat) : Sp := fun vs H Q _ => ∃ (t : Addr) (u x v : V) (bk : List (Str × PyData)) (n : Nat) (k d : PyData) (h : Ho), vs = [.ref t, u, x, v] ∧ Tab K H t bk ∧ BkK bk ∧ Dq K H u k ∧ Dq K H x (hoD h) ∧ hoOk h ∧ Dq K H v d ∧ kOk k ∧ plB d = true ∧ Val numOk bk n k d ∧ n ≤ N ∧ n ≤ 1000 ∧
  ∀ l H' ws, Same H H' → H' l = some (.lst ws) → DqAll K H' ws ((roads bk (hoD h) n k d).map pathD) → Q (.ref l) H'
theorem cons_path {K : PySem.W.Frag} {H : Hp} {a : Int} {r : List Int} {v : V} {Q : VK} (hd : Dq K H v (pathD r)) (hl : r.length ≤ 2000) (q : ∀ y H', Same H H' → Dq K H' y (pathD (a :: r)) → Q y H') {p : Addr} {o : Obj} (hp : H p = none) (ho : o.dict = none) :
    rCatN K (.ref p) v (upd H p (.frz o (.tup [.int a]))) Q := by
  obtain ⟨ad, xs, rfl, hx, hA⟩ := dq_tupleP hd
  have s1 := same_new hp (.frz o (.tup [.int a]))
  have hN : upd H p (.frz o (.tup [.int a])) p = some (.frz o (.tup [.int a])) := upd_same
  have hl2 := ints_dq hA
  refine ⟨p, ad, [.int a], xs, rfl, rfl, (SqP.of hN ho).seqT, (s1.seqP hx).seqT, ?_, (fun e => nomatch e), fun _ e => ?_, fun _ _ b o2 hb ho2 => ?_⟩
  · rw [hl2, List.length_map]
    exact Nat.le_trans (by show 1 + r.length ≤ 2001; omega) (by decide)
  · have ep : r = [] := by
      rw [e] at hl2
      exact List.map_eq_nil_iff.mp hl2.symm
    rw [ep] at q
    exact q _ _ s1 (.tup (SqP.of hN ho) (.cons (.int a) .nil))
  · refine q _ _ (s1.trans (same_new hb _)) (.tup (SqP.of upd_same ho2) ?_)
    rw [hl2]
    exact .cons (.int a) (dq_ints r)
theorem pl_paths (l : List (List Int)) : plA (l.map pathD) = true := plA_iff.mpr fun d m => by
  obtain ⟨r, _, rfl⟩ := List.mem_map.mp m
  exact pl_path r
section
variable {P : Program} {w : World} {K : PySem.W.Frag} {mg : Str → Option Value} {base : Heap}
theorem scSd : FnScope ["datum"] ["datum"] (defScope sSd) := ⟨rfl, rfl, rfl, by decide +kernel, rfl, by decide +kernel, by decide +kernel⟩
theorem scRo : FnScope ["of", "form", "gap", "datum", "found", "at", "road"] ["of", "form", "gap", "datum"] (defScope sRo) := ⟨rfl, rfl, rfl, by decide +kernel, rfl, by decide +kernel, by decide +kernel⟩
theorem ok_lside {f : Addr} {fd : FuncData} (F : Fun K "_law_side" "_law_side" sSd f fd) : FnOk P w K mg base CX0 1 f fd ["datum"] (spSd K) := by
  refine F.ok scSd (fun vs H Q E h => ?_) (fun cdv A outer s H vs Q E hr h => ?_)
  · obtain ⟨v, s, r, rfl, _⟩ := h
    rfl
  obtain ⟨v, s', r, rfl, hd, q⟩ := h
  refine ⟨_, (pss_one (ps_ret (pe_ifExp (pt_cmpR op_eq (pe_ix ix_tup (pv 0) pe_int (fun _ _ => rfl)) pe_str (nomark _)) pe_int pe_int))), ?_⟩
  obtain ⟨ad, xs, rfl, hx, hA⟩ := dq_tuple hd
  obtain ⟨x0, rs, rfl, g0, hA⟩ := dqAll_cons hA
  cases g0
  refine ⟨_, rfl, ad, _, 0, _, rfl, rfl, hx, atI_nat (j := 0) rfl, rfl, _, rfl, ite2 (fun g => ?_) (fun g => ?_)⟩
  · exact q _ (if_pos (show sideD s' = true from g)).symm
  · exact q _ (if_neg (show ¬ sideD s' = true from g)).symm
theorem ok_roads {f gS : Addr} {fd dS : FuncData} {N k : Nat} (hk : 1 ≤ k) (F : Fun K "_law_roads" "_law_roads" sRo f fd) (SD : Gv P w K mg base 1 "_law_side" gS dS ["datum"] (spSd K)) (R : Gv P w K mg base k "_law_roads" f fd ["of", "form", "gap", "datum"] (spRo K N)) : FnOk P w K mg base CX0 (k + 1) f fd ["of", "form", "gap", "datum"] (spRo K (N + 1)) := by
  refine F.ok scRo (fun vs H Q E h => ?_) (fun cdv A outer s H vs Q E hr h => ?_)
  · obtain ⟨t, u, x, v, bk, n, k, d, ho, rfl, _⟩ := h
    rfl
  obtain ⟨t, u, x, v, bk, n, kd, d, ho, rfl, tb, BK, hu, hx, hok, hv, ok, pd', val, nN, nn, q⟩ := h
  have hu1 := Nat.lt_of_le_of_lt (Nat.add_le_add_left (by decide : 1 ≤ 64) _) hr.units
  have hr1 : Room 1 (A.deeper _) := hr.mono hk
  refine ⟨_, (pss_cons (ps_set (i := 4) scRo.nd rfl (.inl rfl) (pe_ifExp (pt_cmpR (op_eqD hr.units) (pv 1) (pv 2) (nomark _)) (pe_lst (pa_cons (pe_tupN pa_nil) pa_nil)) (pe_lst pa_nil)))
    (pss_cons (ps_if (pt_cmpR op_eq (pe_ix ix_tup (pv 1) pe_int (fun _ _ => rfl)) pe_str (nomark _)) (pss_one (ps_ret (pe_op op_cat (pv 4) (pe_call R.ok hr rfl R.m R.k R.b .nil pass0 (pa_cons (pv 0) (pa_cons (pe_dget hu1 (pv 0) (pe_ix ix_tup (pv 1) pe_int (fun _ _ => rfl)) (fun _ _ => rfl)) (pa_cons (pv 2) (pa_cons (pv 3) pa_nil)))))))) pss_nil)
    (pss_cons (ps_if (pt_cmpR op_eq (pe_ix ix_tup (pv 1) pe_int (fun _ _ => rfl)) pe_str (nomark _)) (pss_one (ps_for PassesOwn.never rfl (pi_tup (pe_tup (pa_cons pe_int (pa_cons pe_int pa_nil)))) (pg_name (i := 5) scRo.nd rfl (.inr rfl)) (pss_one (ps_set (i := 4) scRo.nd rfl (.inl rfl) (pe_op op_cat (pv 4) (pe_lc (own := [("road", 6)]) (g := gName 6) (tt := tYes) (te := tOp (rCatN K) (tTupN (tCons (tVar 5) tNil)) (tVar 6)) rfl scRo.nd (pi_list (pe_call R.ok hr rfl R.m R.k R.b .nil pass0 (pa_cons (pv 0) (pa_cons (pe_ix ix_tup (pv 1) (pv 5) (fun _ _ => rfl)) (pa_cons (pv 2) (pa_cons (pe_ix ix_tup (pv 3) (pv 5) (fun _ _ => rfl)) pa_nil)))))) (blkOk_by (own := [("road", 6)]) (N := ["of", "form", "gap", "datum", "found", "at", "road"]) (sc := defScope sRo) (by decide +kernel))
        (fun _ _ _ _ _ => pg_name (i := 6) scRo.nd rfl (.inl rfl)) (fun _ _ _ _ _ => pts_nil) (fun _ _ _ _ _ => (pe_op op_catN (pe_tupN (pa_cons (pv 5) pa_nil)) (pv 6))))))))) pss_nil)
    (pss_cons (ps_if (pt_cmpR op_eq (pe_ix ix_tup (pv 1) pe_int (fun _ _ => rfl)) pe_str (nomark _)) (pss_one (ps_setLc (i := 4) (own := [("road", 6)]) (g := gName 6) (tt := tYes) (te := tOp (rCatN K) (tTupN (tCons (tC (.int 1)) tNil)) (tVar 6)) rfl scRo.nd rfl rfl (sw_true rfl rfl rfl (by decide +kernel)) (pi_list (pe_call R.ok hr rfl R.m R.k R.b .nil pass0 (pa_cons (pv 0) (pa_cons (pe_ix ix_tup (pv 1) (pe_call SD.ok hr1 rfl SD.m SD.k SD.b .nil pass0 (pa_cons (pv 3) pa_nil)) (fun _ _ => rfl)) (pa_cons (pv 2) (pa_cons (pe_ix ix_tup (pv 3) pe_int (fun _ _ => rfl)) pa_nil)))))) (blkOk_by (own := [("road", 6)]) (N := ["of", "form", "gap", "datum", "found", "at", "road"]) (sc := defScope sRo) (by decide +kernel))
        (fun _ _ _ _ _ => pg_name (i := 6) scRo.nd rfl (.inl rfl)) (fun _ _ _ _ _ => pts_nil) (fun _ _ _ _ _ => (pe_op op_catN (pe_tupN (pa_cons pe_int pa_nil)) (pv 6))))) pss_nil)
    (pss_one (ps_ret (pv 4))))))), ?_⟩
  have z3 : ∀ {k : Nat}, k ≤ 5000 → k ≤ sizeLine := fun h => Nat.le_trans h (by decide)
  refine ⟨_, rfl, _, rfl, kd, hoD ho, Dq.dp _ _ ok.1 hu, Dq.dp _ _ (hoD_st hok) hx, shp ok.1 (by have := ok.2; omega), shp (hoD_st hok) (hoD_depth ho), _, rfl, ?_⟩
  -- the list of what is here
  refine joinPH (S := fun l H' => Same H H' ∧ ∃ ws, H' l = some (.lst ws) ∧ H l = none ∧ DqAll K H' ws ((hereR kd (hoD ho)).map pathD)) ?fin (fun fin => by
    refine ite2 (fun g => ?_) (fun g => ?_)
    · refine ⟨z3 (by show 0 ≤ 5000; decide), fun p o hp hob => ⟨z3 (by show 1 ≤ 5000; decide), fun l hl => ?_⟩⟩
      have s1 := same_new hp (.frz o (.tup []))
      have s2 := same_new hl (.lst [.ref p])
      refine fin l _ ⟨s1.trans s2, _, upd_same, s1.free hl, ?_⟩
      unfold hereR
      rw [if_pos g]
      exact .cons (.tup (SqP.of (s2 _ _ upd_same) hob) .nil) .nil
    · refine ⟨z3 (by show 0 ≤ 5000; decide), fun l hl => ?_⟩
      refine fin l _ ⟨same_new hl (.lst []), _, upd_same, hl, ?_⟩
      unfold hereR
      rw [if_neg g]
      exact .nil)
  rintro fl H1 ⟨s1, ws1, hl1, hlH, hD1⟩
  have hu' := Dq.mono s1 _ _ hu
  have hx' := Dq.mono s1 _ _ hx
  have hv' := Dq.mono s1 _ _ hv
  have tb' := tb.on s1
  have few := roads_few (g := hoD ho) val
  have lh : (hereR kd (hoD ho)).length ≤ 1 := by
    unfold hereR
    split
    · exact Nat.le_refl _
    · exact Nat.zero_le _
  have lw1 : ws1.length ≤ 1 := by
    rw [hD1.len, List.length_map]
    exact lh
  cases val with
  | @thing n d l =>
    obtain ⟨ad, xs, rfl, hk', hA⟩ := dq_tuple hu'
    obtain ⟨x0, rs, rfl, g0, hA⟩ := dqAll_cons hA
    cases g0
    rw [roads_one] at q
    refine ⟨_, rfl, ad, _, 0, _, rfl, rfl, hk', atI_nat (j := 0) rfl, rfl, _, rfl, iteN (by decide +kernel) ?_⟩
    refine ⟨_, rfl, ad, _, 0, _, rfl, rfl, hk', atI_nat (j := 0) rfl, rfl, _, rfl, iteN (by decide +kernel) ?_⟩
    refine ⟨_, rfl, ad, _, 0, _, rfl, rfl, hk', atI_nat (j := 0) rfl, rfl, _, rfl, iteN (by decide +kernel) ?_⟩
    exact ⟨_, rfl, q fl H1 ws1 s1 hl1 hD1⟩
  | @unit n =>
    obtain ⟨ad, xs, rfl, hk', hA⟩ := dq_tuple hu'
    obtain ⟨x0, rs, rfl, g0, hA⟩ := dqAll_cons hA
    cases g0
    rw [roads_one] at q
    refine ⟨_, rfl, ad, _, 0, _, rfl, rfl, hk', atI_nat (j := 0) rfl, rfl, _, rfl, iteN (by decide +kernel) ?_⟩
    refine ⟨_, rfl, ad, _, 0, _, rfl, rfl, hk', atI_nat (j := 0) rfl, rfl, _, rfl, iteN (by decide +kernel) ?_⟩
    refine ⟨_, rfl, ad, _, 0, _, rfl, rfl, hk', atI_nat (j := 0) rfl, rfl, _, rfl, iteN (by decide +kernel) ?_⟩
    exact ⟨_, rfl, q fl H1 ws1 s1 hl1 hD1⟩
  | @name n y k1 _ l g =>
    obtain ⟨ad, xs, rfl, hk', hA⟩ := dq_tuple hu'
    obtain ⟨x0, rs, rfl, g0, hA⟩ := dqAll_cons hA
    obtain ⟨x1, rs, rfl, g1, hA⟩ := dqAll_cons hA
    cases g0
    cases g1
    rw [roads_name l] at q few
    refine ⟨_, rfl, ad, _, 0, _, rfl, rfl, hk', atI_nat (j := 0) rfl, rfl, _, rfl, iteY (by decide +kernel) ?_⟩
    rcases tb'.get y with ⟨_, z⟩ | ⟨v1, d1, gk, z, D1⟩
    · rw [l] at z
      cases z
    rw [l] at z
    cases z
    refine ⟨_, rfl, _, rfl, _, rfl, _, rfl, ad, _, 1, _, rfl, rfl, hk', atI_nat (j := 1) rfl, t, v1, rfl, gk, _, rfl, _, rfl, t, v1, x, v, bk, n, k1, d, ho, rfl, tb', BK, D1, hx', hok, hv', BK _ _ l, pd', g, by omega, by omega, fun l2 H2 ws2 s2 hl2 hD2 => ?_⟩
    have lw2 := hD2.len
    rw [List.length_map] at lw2
    have f1 := few.1
    rw [List.length_append] at f1
    refine ⟨fl, l2, ws1, ws2, rfl, rfl, s2 _ _ hl1, hl2, z3 (by omega), fun p hp => ?_⟩
    have s3 := same_new hp (.lst (ws1 ++ ws2))
    refine q p _ (ws1 ++ ws2) ((s1.trans s2).trans s3) upd_same ?_
    rw [List.map_append]
    exact DqAll.mono s3 _ _ ((DqAll.mono s2 _ _ hD1).append hD2)
  | @pair n m p' a b d1 d2 va vb le =>
    obtain ⟨n, rfl⟩ : ∃ z, n = z + 1 := ⟨n - 1, by omega⟩
    obtain ⟨ad, xs, rfl, hk', hA⟩ := dq_tuple hu'
    obtain ⟨x0, rs, rfl, g0, hA⟩ := dqAll_cons hA
    obtain ⟨x1, rs, rfl, g1, hA⟩ := dqAll_cons hA
    obtain ⟨x2, rs, rfl, g2, hA⟩ := dqAll_cons hA
    obtain rfl := dqAll_nil hA
    cases g0
    obtain ⟨av, ys, rfl, hy', hB⟩ := dq_tuple hv'
    obtain ⟨y0, ts, rfl, j0, hB⟩ := dqAll_cons hB
    obtain ⟨y1, ts, rfl, j1, hB⟩ := dqAll_cons hB
    obtain ⟨y2, ts, rfl, j2, hB⟩ := dqAll_cons hB
    obtain rfl := dqAll_nil hB
    have ea := roads_fuel (g := hoD ho) va (by omega : m ≤ n)
    have eb := roads_fuel (g := hoD ho) vb (by omega : p' ≤ n)
    rw [roads_pair, ea, eb] at q few
    have fa := roads_few (g := hoD ho) va
    have fb := roads_few (g := hoD ho) vb
    refine ⟨_, rfl, ad, _, 0, _, rfl, rfl, hk', atI_nat (j := 0) rfl, rfl, _, rfl, iteN (by decide +kernel) ?_⟩
    refine ⟨_, rfl, ad, _, 0, _, rfl, rfl, hk', atI_nat (j := 0) rfl, rfl, _, rfl, iteY (by decide +kernel) ?_⟩
    refine ⟨z3 (by show 2 ≤ 5000; decide), fun tt htt => ?_⟩
    have st := same_new htt (.tup [.int 1, .int 2])
    refine ⟨tt, rfl, ⟨_, SqT.of upd_same⟩, ?_⟩
    let part : Nat → List (List Int) := fun i => (if 1 ≤ i then (roads bk (hoD ho) m a d1).map (fun r => 1 :: r) else []) ++ (if 2 ≤ i then (roads bk (hoD ho) p' b d2).map (fun r => 2 :: r) else [])
    refine for_it (walk_tup (xs := [.int 1, .int 2])) (fun i σ H' => ∃ l ws c, σ = [some (.ref t), some (.ref ad), some x, some (.ref av), some (.ref l), c, none] ∧ Same (upd H1 tt (.tup [.int 1, .int 2])) H' ∧ H' l = some (.lst ws) ∧ DqAll K H' ws ((hereR (kPair a b) (hoD ho) ++ part i).map pathD))
      ⟨fl, ws1, _, rfl, Same.refl _, st _ _ hl1, (by show DqAll K _ ws1 ((hereR (kPair a b) (hoD ho) ++ ([] ++ [])).map pathD); rw [List.append_nil, List.append_nil]; exact DqAll.mono st _ _ hD1)⟩ (fun i σ H' _ ⟨_, _, _, _, z, _⟩ => z.seqT (SqT.of upd_same)) ?_ ?_
    · rintro i y σ H2' H2 hi ⟨l, ws, c, rfl, s2, hl2, hD2⟩ ⟨rfl, hy⟩
      have s02 := st.trans s2
      have lw2 := hD2.len
      rw [List.length_map, List.length_append] at lw2
      have pk := ok.row
      have pv2 := pl_row pd'
      -- a part's roads, each with its number ahead
      obtain ⟨j, xk, yv, kc, dc, mc, e1, e2, D1, D2, o1, o2, vc, lc, ey, lp, ep⟩ : ∃ (j : Nat) (xk yv : V) (kc dc : PyData) (mc : Nat), atI [V.str "pair", x1, x2] (j : Int) = some xk ∧ atI [y0, y1, y2] (j : Int) = some yv ∧ Dq K H1 xk kc ∧ Dq K H1 yv dc ∧ kOk kc ∧ plB dc = true ∧ Val numOk bk mc kc dc ∧ mc ≤ n ∧ y = .int (j : Int) ∧
          (hereR (kPair a b) (hoD ho) ++ part i).length ≤ 1001 ∧ part (i + 1) = part i ++ (roads bk (hoD ho) mc kc dc).map (fun r => (j : Int) :: r) := by
        rcases i with _ | _ | i
        · refine ⟨1, x1, y1, a, d1, m, rfl, rfl, g1, j1, pk.1, pv2.1, va, by omega, by simpa using hy.symm, ?_, ?_⟩
          · rw [List.length_append]
            show _ + ([] ++ []).length ≤ _
            simp only [List.append_nil, List.length_nil]
            omega
          · show (roads bk (hoD ho) m a d1).map _ ++ [] = ([] ++ []) ++ _
            rw [List.append_nil, List.append_nil, List.nil_append]
            rfl
        · refine ⟨2, x2, y2, b, d2, p', rfl, rfl, g2, j2, pk.2, pv2.2, vb, by omega, by simpa using hy.symm, ?_, ?_⟩
          · rw [List.length_append]
            show _ + ((roads bk (hoD ho) m a d1).map _ ++ []).length ≤ _
            rw [List.append_nil, List.length_map]
            omega
          · show (roads bk (hoD ho) m a d1).map _ ++ (roads bk (hoD ho) p' b d2).map _ = ((roads bk (hoD ho) m a d1).map _ ++ []) ++ _
            rw [List.append_nil]
            rfl
        · simp only [List.length_cons, List.length_nil] at hi
          omega
      subst ey
      have fc := roads_few (g := hoD ho) vc
      refine ⟨_, rfl, _, rfl, _, rfl, _, rfl, ad, _, _, _, rfl, rfl, s02.seqT hk', e1, _, rfl, _, rfl, _, rfl, av, _, _, _, rfl, rfl, s02.seqT hy', e2, t, xk, x, yv, bk, mc, kc, dc, ho, rfl, tb'.on s02, BK, Dq.mono s02 _ _ D1, Dq.mono s02 _ _ hx', hok, Dq.mono s02 _ _ D2, o1, o2, vc, by omega, by omega, fun l3 H3 ws3 s3 hl3 hD3 => ?_⟩
      refine ⟨l3, rfl, ⟨_, SqL.of hl3⟩, fun D nD => ?_⟩
      have lw3 := hD3.len
      rw [List.length_map] at lw3
      refine lc_it (walk_list (xs := ws3)) (fun i4 H4 => Same H3 H4 ∧ ∃ zs, H4 D = some (.lst zs) ∧ zs.length = i4 ∧ DqAll K H4 zs ((((roads bk (hoD ho) mc kc dc).take i4).map (fun r => (j : Int) :: r)).map pathD)) ⟨same_new nD _, [], upd_same, rfl, .nil⟩ (fun i4 H4 _ z => SqL.of (z.1 _ _ hl3)) ?_ ?_
      · rintro i4 y4 H4 _ hi4 ⟨s4, zs, hD, lz, hZ⟩ ⟨rfl, hy4⟩
        refine ⟨rfl, ?_⟩
        simp only [tYes, ↓reduceIte]
        obtain ⟨e, he, hde⟩ := dqAll_at _ _ _ hD3 hy4
        rw [List.getElem?_map] at he
        obtain ⟨r, hr', rfl⟩ : ∃ r, (roads bk (hoD ho) mc kc dc)[i4]? = some r ∧ pathD r = e := by
          cases z : (roads bk (hoD ho) mc kc dc)[i4]? with
          | none => rw [z] at he; cases he
          | some r => rw [z] at he; exact ⟨r, rfl, Option.some.inj he⟩
        have lr := fc.2 r (List.mem_of_getElem? hr')
        refine ⟨_, rfl, z3 (by show 1 ≤ 5000; decide), fun p o hp hob => ⟨_, rfl, cons_path (Dq.mono s4 _ _ hde) (by omega) (fun y5 H5 s5 hy5 => ?_) hp hob⟩⟩
        refine ⟨zs, s5 _ _ hD, Nat.lt_of_le_of_lt (by omega : zs.length ≤ 1000) (by decide), fun b o e => by rw [upd_ne (ne_of_none e nD)]; exact s5 _ _ (s4 _ _ e), zs ++ [y5], upd_same, by rw [List.length_append, lz]; rfl, ?_⟩
        have ts := TS.lst (s5 _ _ hD) (zs ++ [y5])
        rw [List.take_add_one, hr', List.map_append, List.map_append]
        exact DqAll.append (DqAll.ts ((TS.same s5).trans ts) _ _ (pl_paths _) hZ) (.cons (Dq.ts ts _ _ (pl_path _) hy5) .nil)
      · rintro H4 ⟨s4, zs, hD, lz, hZ⟩
        rw [lw3, List.take_length] at hZ
        have s24 := s3.trans s4
        rw [List.length_append] at lp
        refine ⟨l, D, ws, zs, rfl, rfl, s24 _ _ hl2, hD, z3 (by omega), fun p hp => ?_⟩
        have s5 := same_new hp (.lst (ws ++ zs))
        refine ⟨p, ws ++ zs, _, rfl, (s2.trans s24).trans s5, upd_same, ?_⟩
        rw [ep, ← List.append_assoc, List.map_append]
        exact DqAll.mono s5 _ _ ((DqAll.mono s24 _ _ hD2).append hZ)
    · rintro σ H2 ⟨l, ws, c, rfl, s2, hl2, hD2⟩
      have s02 := st.trans s2
      refine ⟨_, rfl, ad, _, 0, _, rfl, rfl, s02.seqT hk', atI_nat (j := 0) rfl, rfl, _, rfl, iteN (by decide +kernel) ?_⟩
      exact ⟨_, rfl, q l H2 ws (s1.trans s02) hl2 hD2⟩
  | @left n a b d1 vc =>
    obtain ⟨ad, xs, rfl, hk', hA⟩ := dq_tuple hu'
    obtain ⟨x0, rs, rfl, g0, hA⟩ := dqAll_cons hA
    obtain ⟨x1, rs, rfl, g1, hA⟩ := dqAll_cons hA
    obtain ⟨x2, rs, rfl, g2, hA⟩ := dqAll_cons hA
    obtain rfl := dqAll_nil hA
    cases g0
    obtain ⟨av, ys, rfl, hy', hB⟩ := dq_tuple hv'
    obtain ⟨y0, ts, rfl, j0, hB⟩ := dqAll_cons hB
    obtain ⟨y1, ts, rfl, j1, hB⟩ := dqAll_cons hB
    obtain rfl := dqAll_nil hB
    rw [roads_left, here_two, List.nil_append] at q
    have fc := roads_few (g := hoD ho) vc
    have pk := ok.row
    have pv2 := pl_row1 pd'
    refine ⟨_, rfl, ad, _, 0, _, rfl, rfl, hk', atI_nat (j := 0) rfl, rfl, _, rfl, iteN (by decide +kernel) ?_⟩
    refine ⟨_, rfl, ad, _, 0, _, rfl, rfl, hk', atI_nat (j := 0) rfl, rfl, _, rfl, iteN (by decide +kernel) ?_⟩
    refine ⟨_, rfl, ad, _, 0, _, rfl, rfl, hk', atI_nat (j := 0) rfl, rfl, _, rfl, iteY (by decide +kernel) ?_⟩
    refine ⟨_, rfl, _, rfl, _, rfl, _, "left", _, rfl, hv', fun i ei => ?_⟩
    rw [side_l, if_pos rfl] at ei
    subst ei
    refine ⟨ad, _, _, _, rfl, rfl, hk', atI_nat (j := 1) rfl, _, rfl, _, rfl, av, _, _, _, rfl, rfl, hy', atI_nat (j := 1) rfl, t, x1, x, y1, bk, n, a, d1, ho, rfl, tb', BK, g1, hx', hok, j1, pk.1, pv2, vc, by omega, by omega, fun l3 H3 ws3 s3 hl3 hD3 => ?_⟩
    refine ⟨l3, rfl, ⟨_, SqL.of hl3⟩, fun D nD => ?_⟩
    have lw3 := hD3.len
    rw [List.length_map] at lw3
    refine lc_it (walk_list (xs := ws3)) (fun i4 H4 => Same H3 H4 ∧ ∃ zs, H4 D = some (.lst zs) ∧ zs.length = i4 ∧ DqAll K H4 zs ((((roads bk (hoD ho) n a d1).take i4).map (fun r => (1 : Int) :: r)).map pathD)) ⟨same_new nD _, [], upd_same, rfl, .nil⟩ (fun i4 H4 _ z => SqL.of (z.1 _ _ hl3)) ?_ ?_
    · rintro i4 y4 H4 _ hi4 ⟨s4, zs, hD, lz, hZ⟩ ⟨rfl, hy4⟩
      refine ⟨rfl, ?_⟩
      simp only [tYes, ↓reduceIte]
      obtain ⟨e, he, hde⟩ := dqAll_at _ _ _ hD3 hy4
      rw [List.getElem?_map] at he
      obtain ⟨r, hr', rfl⟩ : ∃ r, (roads bk (hoD ho) n a d1)[i4]? = some r ∧ pathD r = e := by
        cases z : (roads bk (hoD ho) n a d1)[i4]? with
        | none => rw [z] at he; cases he
        | some r => rw [z] at he; exact ⟨r, rfl, Option.some.inj he⟩
      have lr := fc.2 r (List.mem_of_getElem? hr')
      refine ⟨z3 (by show 1 ≤ 5000; decide), fun p o hp hob => ⟨_, rfl, cons_path (Dq.mono s4 _ _ hde) (by omega) (fun y5 H5 s5 hy5 => ?_) hp hob⟩⟩
      refine ⟨zs, s5 _ _ hD, Nat.lt_of_le_of_lt (by omega : zs.length ≤ 1000) (by decide), fun b o e => by rw [upd_ne (ne_of_none e nD)]; exact s5 _ _ (s4 _ _ e), zs ++ [y5], upd_same, by rw [List.length_append, lz]; rfl, ?_⟩
      have ts := TS.lst (s5 _ _ hD) (zs ++ [y5])
      rw [List.take_add_one, hr', List.map_append, List.map_append]
      exact DqAll.append (DqAll.ts ((TS.same s5).trans ts) _ _ (pl_paths _) hZ) (.cons (Dq.ts ts _ _ (pl_path _) hy5) .nil)
    · rintro H4 ⟨s4, zs, hD, lz, hZ⟩
      rw [lw3, List.take_length] at hZ
      have s24 := s3.trans s4
      exact ⟨_, rfl, q D H4 zs (s1.trans s24) hD hZ⟩
  | @right n a b d1 vc =>
    obtain ⟨ad, xs, rfl, hk', hA⟩ := dq_tuple hu'
    obtain ⟨x0, rs, rfl, g0, hA⟩ := dqAll_cons hA
    obtain ⟨x1, rs, rfl, g1, hA⟩ := dqAll_cons hA
    obtain ⟨x2, rs, rfl, g2, hA⟩ := dqAll_cons hA
    obtain rfl := dqAll_nil hA
    cases g0
    obtain ⟨av, ys, rfl, hy', hB⟩ := dq_tuple hv'
    obtain ⟨y0, ts, rfl, j0, hB⟩ := dqAll_cons hB
    obtain ⟨y1, ts, rfl, j1, hB⟩ := dqAll_cons hB
    obtain rfl := dqAll_nil hB
    rw [roads_right, here_two, List.nil_append] at q
    have fc := roads_few (g := hoD ho) vc
    have pk := ok.row
    have pv2 := pl_row1 pd'
    refine ⟨_, rfl, ad, _, 0, _, rfl, rfl, hk', atI_nat (j := 0) rfl, rfl, _, rfl, iteN (by decide +kernel) ?_⟩
    refine ⟨_, rfl, ad, _, 0, _, rfl, rfl, hk', atI_nat (j := 0) rfl, rfl, _, rfl, iteN (by decide +kernel) ?_⟩
    refine ⟨_, rfl, ad, _, 0, _, rfl, rfl, hk', atI_nat (j := 0) rfl, rfl, _, rfl, iteY (by decide +kernel) ?_⟩
    refine ⟨_, rfl, _, rfl, _, rfl, _, "right", _, rfl, hv', fun i ei => ?_⟩
    rw [side_r, if_neg Bool.false_ne_true] at ei
    subst ei
    refine ⟨ad, _, _, _, rfl, rfl, hk', atI_nat (j := 2) rfl, _, rfl, _, rfl, av, _, _, _, rfl, rfl, hy', atI_nat (j := 1) rfl, t, x2, x, y1, bk, n, b, d1, ho, rfl, tb', BK, g2, hx', hok, j1, pk.2, pv2, vc, by omega, by omega, fun l3 H3 ws3 s3 hl3 hD3 => ?_⟩
    refine ⟨l3, rfl, ⟨_, SqL.of hl3⟩, fun D nD => ?_⟩
    have lw3 := hD3.len
    rw [List.length_map] at lw3
    refine lc_it (walk_list (xs := ws3)) (fun i4 H4 => Same H3 H4 ∧ ∃ zs, H4 D = some (.lst zs) ∧ zs.length = i4 ∧ DqAll K H4 zs ((((roads bk (hoD ho) n b d1).take i4).map (fun r => (1 : Int) :: r)).map pathD)) ⟨same_new nD _, [], upd_same, rfl, .nil⟩ (fun i4 H4 _ z => SqL.of (z.1 _ _ hl3)) ?_ ?_
    · rintro i4 y4 H4 _ hi4 ⟨s4, zs, hD, lz, hZ⟩ ⟨rfl, hy4⟩
      refine ⟨rfl, ?_⟩
      simp only [tYes, ↓reduceIte]
      obtain ⟨e, he, hde⟩ := dqAll_at _ _ _ hD3 hy4
      rw [List.getElem?_map] at he
      obtain ⟨r, hr', rfl⟩ : ∃ r, (roads bk (hoD ho) n b d1)[i4]? = some r ∧ pathD r = e := by
        cases z : (roads bk (hoD ho) n b d1)[i4]? with
        | none => rw [z] at he; cases he
        | some r => rw [z] at he; exact ⟨r, rfl, Option.some.inj he⟩
      have lr := fc.2 r (List.mem_of_getElem? hr')
      refine ⟨z3 (by show 1 ≤ 5000; decide), fun p o hp hob => ⟨_, rfl, cons_path (Dq.mono s4 _ _ hde) (by omega) (fun y5 H5 s5 hy5 => ?_) hp hob⟩⟩
      refine ⟨zs, s5 _ _ hD, Nat.lt_of_le_of_lt (by omega : zs.length ≤ 1000) (by decide), fun b o e => by rw [upd_ne (ne_of_none e nD)]; exact s5 _ _ (s4 _ _ e), zs ++ [y5], upd_same, by rw [List.length_append, lz]; rfl, ?_⟩
      have ts := TS.lst (s5 _ _ hD) (zs ++ [y5])
      rw [List.take_add_one, hr', List.map_append, List.map_append]
      exact DqAll.append (DqAll.ts ((TS.same s5).trans ts) _ _ (pl_paths _) hZ) (.cons (Dq.ts ts _ _ (pl_path _) hy5) .nil)
    · rintro H4 ⟨s4, zs, hD, lz, hZ⟩
      rw [lw3, List.take_length] at hZ
      have s24 := s3.trans s4
      exact ⟨_, rfl, q D H4 zs (s1.trans s24) hD hZ⟩
end
end Toy
set_option Elab.async false
set_option linter.all false
set_option maxRecDepth 100000
set_option maxHeartbeats 4000000
namespace Toy
open PySem L2 PyProof.Rows
abbrev sSf : Stmt := top 78
abbrev sFd : Stmt := top 81
/-! ### paths are short -/
theorem met_ent {bk : List (Str × PyData)} : ∀ (n : Nat) (k v : PyData) (p : List Int), (∀ i ∈ p, i = 1 ∨ i = 2) → ∀ c ∈ met bk n k v p, ∀ i ∈ c.2.2, i = 1 ∨ i = 2
  | 0, _, _, _, _ => fun _ m => nomatch m
  | n + 1, k, v, p, h => fun c mc => by
    rcases List.mem_cons.mp (show c ∈ (k, v, p) :: _ from mc) with e | mc
    · rw [e]; exact h
    · obtain ⟨c2, m2, mc⟩ := List.mem_flatMap.mp mc
      refine met_ent n _ _ _ ?_ c mc
      have one : ∀ j : Int, (j = 1 ∨ j = 2) → ∀ i ∈ p ++ [j], i = 1 ∨ i = 2 := fun j hj i mi => by
        rcases List.mem_append.mp mi with mi | mi
        · exact h i mi
        · rw [List.mem_singleton.mp mi]; exact hj
      unfold kidsM at m2
      split at m2
      · split at m2
        · rw [List.mem_singleton.mp m2]; exact h
        · cases m2
      · rcases List.mem_cons.mp m2 with e | m2
        · rw [e]; exact one 1 (.inl rfl)
        · rw [List.mem_singleton.mp m2]; exact one 2 (.inr rfl)
      · rw [List.mem_singleton.mp m2]; exact one 1 (.inl rfl)
      · cases m2
theorem roads_ent {bk : List (Str × PyData)} {g : PyData} {n : Nat} {k v : PyData} : ∀ r ∈ roads bk g n k v, ∀ i ∈ r, i = 1 ∨ i = 2 := fun r mr => by
  unfold roads at mr
  obtain ⟨c, mc, rfl⟩ := List.mem_map.mp mr
  exact met_ent n k v [] (fun _ m => nomatch m) c (List.mem_filter.mp mc).1
theorem path_gd : ∀ {r : List Int}, (∀ i ∈ r, i = 1 ∨ i = 2) → PyData.weightAll (r.map PyData.int) ≤ 3 * r.length ∧ gdA 0 (r.map PyData.int) = true ∧ PyData.depthAll (r.map PyData.int) = 0
  | [], _ => ⟨Nat.le_refl _, rfl, rfl⟩
  | i :: r, h => by
    obtain ⟨a, b, c⟩ := path_gd (r := r) fun j m => h j (List.mem_cons_of_mem _ m)
    have wi : (PyData.int i).weight ≤ 2 ∧ gdB 0 (.int i) = true ∧ (PyData.int i).depth = 0 := by
      rcases h i List.mem_cons_self with e | e <;> (rw [e]; decide +kernel)
    refine ⟨?_, ?_, ?_⟩
    · rw [List.map_cons, List.length_cons]
      simp only [PyData.weightAll]
      omega
    · show (gdB 0 (.int i) && gdA 0 (r.map PyData.int)) = true
      rw [wi.2.1, b]
      rfl
    · rw [List.map_cons]
      simp only [PyData.depthAll]
      omega
theorem paths_gd : ∀ {l : List (List Int)}, (∀ r ∈ l, r.length ≤ 100 ∧ ∀ i ∈ r, i = 1 ∨ i = 2) → PyData.weightAll (l.map pathD) ≤ 301 * l.length ∧ gdA 0 (l.map pathD) = true ∧ PyData.depthAll (l.map pathD) ≤ 1
  | [], _ => ⟨Nat.le_refl _, rfl, Nat.zero_le _⟩
  | r :: l, h => by
    obtain ⟨a, b, c⟩ := paths_gd (l := l) fun j m => h j (List.mem_cons_of_mem _ m)
    obtain ⟨lr, er⟩ := h r List.mem_cons_self
    obtain ⟨w1, w2, w3⟩ := path_gd er
    refine ⟨?_, ?_, ?_⟩
    · rw [List.map_cons, List.length_cons]
      simp only [PyData.weightAll, pathD, PyData.weight]
      omega
    · show (gdA 0 (r.map PyData.int) && gdA 0 (l.map pathD)) = true
      rw [w2, b]
      rfl
    · rw [List.map_cons]
      simp only [PyData.depthAll, pathD, PyData.depth]
      omega
theorem roads_gd {bk : List (Str × PyData)} {g : PyData} {n : Nat} {k v : PyData} (h : Val numOk bk n k v) (hn : n ≤ 100) : Gd (.tuple ((roads bk g n k v).map pathD)) 0 40000 30 := by
  obtain ⟨a, b⟩ := roads_few (g := g) h
  obtain ⟨w1, w2, w3⟩ := paths_gd (l := roads bk g n k v) fun r m => ⟨by have := b r m; omega, roads_ent r m⟩
  refine ⟨w2, ?_, ?_⟩
  · simp only [PyData.weight]
    omega
  · simp only [PyData.depth]
    omega
/-! ### a kind drawn that is light -/
def spSf (K : PySem.W.Frag) : Sp := fun vs H Q _ => ∃ (wl l hv : Addr) (G : Hp) (ns : List Str) (bk : List (Str × PyData)) (acc : List (Key × V)) (hw : List (Str × Int)), vs = [.ref wl, .ref l, .ref hv] ∧ Stt wl G H ∧ H l = some (.lst (ns.map V.str)) ∧ l ≠ wl ∧ 1 ≤ ns.length ∧ ns.length ≤ 1000 ∧ (∀ x ∈ ns, PyData.strOk x = true ∧ nmB (.str x) = true ∧ (lookB bk x).isSome = true) ∧ G hv = some (.dK acc) ∧ Paired HvR acc hw ∧ Fal bk hw ∧
  ∀ (v' : V) (H' G' : Hp) (d : PyData), Gr wl G H G' H' → Dq K G' v' d → KT (· ∈ ns) 5 d → wt hw 24 d ≤ 15 → Q v' H'
def spFd (K : PySem.W.Frag) : Sp := fun vs H Q _ => ∃ (vL vF vG vD : V) (t : Addr) (d e x : PyData) (h : Ho) (n : Nat), vs = [vL, .ref t, vF, vG, vD] ∧ BookAt K 120 H vL d ∧ KindAt K 120 H vF d e ∧ HoleAt K 120 H vG d h ∧ Dq K H vD x ∧ ValOk d e x n ∧ Tab K H t (bkOf d) ∧ n ≤ 100 ∧ ∀ H', Same H H' → Q (.bl true) H'
section
variable {P : Program} {w : World} {K : PySem.W.Frag} {mg : Str → Option Value} {base : Heap}
theorem scSf : FnScope ["spring", "names", "heavy", "lap", "form"] ["spring", "names", "heavy"] (defScope sSf) := ⟨rfl, rfl, rfl, by decide +kernel, rfl, by decide +kernel, by decide +kernel⟩
theorem scFd : FnScope ["lib", "of", "form", "gap", "datum", "due", "gave"] ["lib", "of", "form", "gap", "datum"] (defScope sFd) := ⟨rfl, rfl, rfl, by decide +kernel, rfl, by decide +kernel, by decide +kernel⟩
theorem ok_someform {f gD gP gF gW : Addr} {fd dD dP dF dW : FuncData} (F : Fun K "_law_some_form" "_law_some_form" sSf f fd) (T : Nm mg) (R : Nr mg) (D : Gv P w K mg base 1 "_law_draw" gD dD ["spring", "top"] spDraw) (PT' : Gv P w K mg base 2 "_law_pick" gP dP ["spring", "some"] (spPick K)) (PL : FnOk P w K mg base CX0 2 gP dP ["spring", "some"] (spPickL K))
    (FO : Gv P w K mg base 10 "_law_form" gF dF ["spring", "names", "left"] (spFo K 7)) (WT : Gv P w K mg base 25 "_law_weight" gW dW ["heavy", "form"] (spWt K 24)) : FnOk P w K mg base CX0 26 f fd ["spring", "names", "heavy"] (spSf K) := by
  refine F.ok scSf (fun vs H Q E h => ?_) (fun cdv A outer s H vs Q E hr h => ?_)
  · obtain ⟨wl, l, hv, G, ns, bk, acc, hw, rfl, _⟩ := h
    rfl
  obtain ⟨wl, l, hv, G, ns, bk, acc, hw, rfl, st, hl, nl, n1, n9, nsf, hh, hp, fal, q⟩ := h
  have hr1 : Room 1 (A.deeper _) := hr.mono (by omega)
  have hr2 : Room 2 (A.deeper _) := hr.mono (by omega)
  have hrF : Room 10 (A.deeper _) := hr.mono (by omega)
  have hrw : Room 25 (A.deeper _) := hr
  refine ⟨_, (pss_cons (ps_for PassesOwn.never rfl (pi_range1 (by rfl) R.range (pa_cons pe_int pa_nil)) (pg_name (i := 3) scSf.nd rfl (.inl rfl)) (pss_cons (ps_set (i := 4) scSf.nd rfl (.inl rfl) (pe_ifExp (pt_cmpR op_gt (pe_call D.ok hr1 rfl D.m D.k D.b .nil pass0 (pa_cons (pv 0) (pa_cons pe_int pa_nil))) pe_int (nomark _)) (pe_tupN (pa_cons pe_str (pa_cons (pe_call PL hr2 rfl PT'.m PT'.k PT'.b .nil pass0 (pa_cons (pv 0) (pa_cons (pv 1) pa_nil))) pa_nil))) (pe_call FO.ok hrF rfl FO.m FO.k FO.b .nil pass0 (pa_cons (pv 0) (pa_cons (pv 1) (pa_cons pe_int pa_nil))))))
    (pss_one (ps_if (PW.pt (pw_and (pt_cmpR op_lt (pe_call WT.ok hrw rfl WT.m WT.k WT.b .nil pass0 (pa_cons (pv 2) (pa_cons (pv 4) pa_nil))) pe_int (nomark _)) (pw_and1 (pt_cmpR op_gt (pe_callB call_len_seq rfl T.len PySem.boot_len (pa_cons (pv 4) pa_nil)) pe_int (nomark _))))) (pss_one (ps_ret (pv 4))) pss_nil))))
    (pss_one (ps_ret (pe_tupN (pa_cons pe_str (pa_cons (pe_tupN (pa_cons pe_str pa_nil)) (pa_cons (pe_tupN (pa_cons pe_str (pa_cons (pe_tupN (pa_cons pe_str pa_nil)) (pa_cons (pe_tupN (pa_cons pe_str (pa_cons (pe_ix ix_list (pv 1) pe_int (fun _ _ => rfl)) pa_nil))) pa_nil)))) pa_nil))))))), ?_⟩
  have z3 : ∀ {k : Nat}, k ≤ 20 → k ≤ sizeLine := fun h => Nat.le_trans h (by decide)
  have wtof : ∀ {d : PyData}, KT (· ∈ ns) 5 d → fB 24 d = true ∧ ∀ x ∈ (ms 24 d).2.2, (lookN hw x).isSome = true := fun {d} t => by
    obtain ⟨a, _, _, b⟩ := kt_facts (fun x hx => (nsf x hx).2.1) t (m := 24) (by decide)
    exact ⟨a, fun x mx => fal.names (nsf x (b x mx)).2.2⟩
  refine ⟨4, rfl, by decide, by decide, ?_⟩
  refine for_range (lo := 0) (n := 4) (fun i σ H' => ∃ G' c3 c4, σ = [some (.ref wl), some (.ref l), some (.ref hv), c3, c4] ∧ Gr wl G H G' H') ⟨G, none, none, rfl, Gr.refl st⟩ ?_ ?_
  · rintro i σ H1 hi ⟨G1, c3, c4, rfl, g1⟩
    have st1 := g1.stt st
    have hl1 := g1.lst nl hl
    refine ⟨_, rfl, wl, 3, rfl, by decide, by decide, st1.well, fun f0 H2 l0 g0 w2 b2 => ⟨_, _, rfl, rfl, _, rfl, ?_⟩⟩
    have g2 := g1.trans (Gr.stay st1 w2 b2)
    have st2 := g2.stt st
    have hl2 := g2.lst nl hl
    refine joinVH (S := fun v H' => ∃ G' d, Gr wl G H G' H' ∧ Dq K G' v d ∧ KT (· ∈ ns) 5 d) ?fin (fun fin => by
      refine ite2 ?y ?n
      case n =>
        intro _
        refine ⟨_, rfl, _, rfl, wl, l, G1, ns, 7, rfl, by decide, by decide, by decide, st2, hl2, nl, n9, (fun x m => (nsf x m).1), fun v3 H3 G3 d3 g3 D3 t3 => ?_⟩
        exact fin v3 H3 ⟨G3, d3, g2.trans g3, D3, t3.up (by decide)⟩
      case y =>
        intro _
        refine ⟨_, rfl, _, rfl, wl, l, ns.map V.str, rfl, st2.well, SqL.of hl2, nl, by rw [List.length_map]; omega, by rw [List.length_map]; omega, fun v H3 hv3 w3 e3 => ⟨z3 (by show 2 ≤ 20; decide), fun p ob hp' hob => ?_⟩⟩
        obtain ⟨x, mx, rfl⟩ := strs_of hv3
        have g3 := g2.trans (Gr.stay st2 w3 e3)
        obtain ⟨g4, D4⟩ := Gr.tup (K := K) (vs := [.str "name", .str x]) (ds := [.str "name", .str x]) (g3.stt st) hp' hob (.cons (.str _) (.cons (.str _) .nil))
        exact fin _ _ ⟨_, _, g3.trans g4, D4, .nam' (by decide) mx⟩)
    rintro v3 H3 ⟨G3, d3, g3, D3, t3⟩
    have st3 := g3.stt st
    obtain ⟨f24, nm⟩ := wtof t3
    refine ⟨_, rfl, _, rfl, hv, v3, acc, hw, d3, rfl, st3.sub _ _ (g3.gg _ _ hh), hp, Dq.mono st3.sub _ _ D3, f24, nm, fun H4 s4 => ⟨_, _, rfl, rfl, _, rfl, ?_⟩⟩
    have g4 := g3.trans (Gr.same st3 s4)
    have st4 := g4.stt st
    refine ite2 (fun c => ?_) (fun c => iteF ⟨G3, _, _, rfl, g4⟩)
    have c := of_decide_eq_true c
    obtain ⟨ds, eds⟩ : ∃ ds, d3 = .tuple ds := by
      rcases fB_cases f24 with ⟨w, e, _⟩ | ⟨w, x, e, _, _⟩ | ⟨m, w, a, b, em, e, _, ha, hb⟩
      · exact ⟨_, e⟩
      · exact ⟨_, e⟩
      · exact ⟨_, e⟩
    have D3t := D3
    rw [eds] at D3t
    obtain ⟨ad, xs, ev, hx, hA⟩ := dq_tuple D3t
    subst ev
    refine ⟨_, rfl, ad, _, rfl, .inr (st4.sub.seqT hx), _, _, rfl, rfl, _, rfl, ?_⟩
    refine ite2 (fun _ => ?_) (fun _ => ⟨G3, _, _, rfl, g4⟩)
    exact ⟨_, rfl, q _ _ _ _ g4 D3 t3 (by omega)⟩
  · rintro σ H1 ⟨G1, c3, c4, rfl, g1⟩
    have st1 := g1.stt st
    obtain ⟨x, rest, ens⟩ : ∃ x rest, ns = x :: rest := by
      cases ns with
      | nil => simp at n1
      | cons x r => exact ⟨x, r, rfl⟩
    have mx : x ∈ ns := by rw [ens]; exact List.mem_cons_self
    have hl1 := g1.lst nl hl
    refine ⟨z3 (by show 1 ≤ 20; decide), fun p1 o1 h1 ho1 => ⟨z3 (by show 1 ≤ 20; decide), fun p2 o2 h2 ho2 => ?_⟩⟩
    obtain ⟨g2, D2⟩ := Gr.tup (K := K) (vs := [.str "thing"]) (ds := [.str "thing"]) st1 h1 ho1 (.cons (.str _) .nil)
    have g12 := g1.trans g2
    obtain ⟨g3, D3⟩ := Gr.tup (K := K) (vs := [.str "unit"]) (ds := [.str "unit"]) (g12.stt st) h2 ho2 (.cons (.str _) .nil)
    have g13 := g12.trans g3
    have hl3 := g13.lst nl hl
    refine ⟨_, rfl, l, _, 0, .str x, rfl, rfl, SqL.of hl3, atI_nat (j := 0) (by rw [ens]; rfl), z3 (by show 2 ≤ 20; decide), fun p3 o3 h3 ho3 => ?_⟩
    obtain ⟨g4, D4⟩ := Gr.tup (K := K) (vs := [.str "name", .str x]) (ds := [.str "name", .str x]) (g13.stt st) h3 ho3 (.cons (.str _) (.cons (.str _) .nil))
    have g14 := g13.trans g4
    refine ⟨z3 (by show 3 ≤ 20; decide), fun p4 o4 h4 ho4 => ?_⟩
    obtain ⟨g5, D5⟩ := Gr.tup (K := K) (vs := [.str "either", .ref p2, .ref p3]) (ds := [.str "either", kUnit, kName x]) (g14.stt st) h4 ho4 (.cons (.str _) (.cons (g4.dq D3) (.cons D4 .nil)))
    have g15 := g14.trans g5
    refine ⟨z3 (by show 3 ≤ 20; decide), fun p5 o5 h5 ho5 => ?_⟩
    obtain ⟨g6, D6⟩ := Gr.tup (K := K) (vs := [.str "pair", .ref p1, .ref p4]) (ds := [.str "pair", kThing, kEith kUnit (kName x)]) (g15.stt st) h5 ho5 (.cons (.str _) (.cons (g5.dq (g4.dq (g3.dq D2))) (.cons D5 .nil)))
    refine q _ _ _ _ (g15.trans g6) D6 (KT.row (by decide) (by decide +kernel) (KT.one' (by decide) (by decide +kernel)) (KT.row (by decide) (by decide +kernel) (KT.one' (by decide) (by decide +kernel)) (KT.nam' (by decide) mx))) ?_
    have a1 : wt hw 23 kThing = 1 := leaf_wt (by decide +kernel) 23
    have a2 : wt hw 22 kUnit = 1 := leaf_wt (by decide +kernel) 22
    rw [wt_two, wE_p, if_neg Bool.false_ne_true, a1, wt_two, wE_e, if_pos rfl, a2]
    have m1 := (mnI_le (i := 1) (j := wt hw 22 (kName x))).1
    have m2 := (mnI_le (i := 10 ^ 9) (j := 1 + mnI 1 (wt hw 22 (kName x)))).2
    have m3 := (mnI_le (i := 10 ^ 9) (j := 1 + (1 + mnI (10 ^ 9) (1 + mnI 1 (wt hw 22 (kName x)))))).2
    omega
theorem ok_isfound {f gR gS gM gI : Addr} {fd dR dS dM dI : FuncData} (F : Fun K "_law_is_found" "_law_is_found" sFd f fd) (TU : mg "tuple" = none) (RO : Gv P w K mg base 102 "_law_roads" gR dR ["of", "form", "gap", "datum"] (spRo K 100)) (SP : Gv P w K mg base 67 "spots" gS dS ["book", "kind", "hole", "value"] (spSpt K 120)) (kSP : KB4 K dS "book" "kind" "hole" "value")
    (SM : GvZ (RoomG 1) P w K mg base "_law_is" gM dM ["gave", "due"] (spSame K)) (SA : GvZ (RoomG 126) P w K mg base "_law_is" gM dM ["gave", "due"] (spSameA K)) (IV : Gv P w K mg base 65 "is_value" gI dI ["book", "kind", "value"] (spIv K 120)) : FnZ (RoomG 127) P w K mg base f fd ["lib", "of", "form", "gap", "datum"] (spFd K) := by
  refine F.okZ true scFd (fun A z => z.depth) (fun _ A z => z.room.hd) (fun vs H Q E h => ?_) (fun cdv A outer s H vs Q hz0 h => ?_)
  · obtain ⟨vL, vF, vG, vD, t, d, e, x, h, n, rfl, _⟩ := h
    rfl
  obtain ⟨vL, vF, vG, vD, t, d, e, x, h, n, rfl, hb, hk, hh, hv, vo, tb, hn, q⟩ := h
  have hz : ∀ env, RoomG 126 (A.deeper env) := fun env => hz0.deeper env
  refine ⟨_, (pss_cons (ps_set (i := 5) scFd.nd rfl (.inl rfl) (pe_callTy call_tupleN rfl TU (by decide +kernel) (pa_cons (pe_call RO.ok ((hz _).room.mono (by omega)) rfl RO.m RO.k RO.b .nil pass0 (pa_cons (pv 1) (pa_cons (pv 2) (pa_cons (pv 3) (pa_cons (pv 4) pa_nil))))) pa_nil)))
    (pss_cons (ps_set (i := 6) scFd.nd rfl (.inl rfl) (pe_lst (pa_cons (pe_call SP.ok ((hz _).room.mono (by omega)) rfl SP.m SP.k SP.b .nil pass0 (pa_cons (pv 0) (pa_cons (pv 2) (pa_cons (pv 3) (pa_cons (pv 4) pa_nil))))) (pa_cons (pe_callK4 SP.ok ((hz _).room.mono (by omega)) rfl SP.m SP.k kSP (pk_cons (pv 4) (pk_cons (pv 3) (pk_cons (pv 2) (pk_cons (pv 0) pk_nil))))) pa_nil))))
    (pss_one (ps_ret (pe_and (pe_callZD SM.ok ((hz _).mono (by omega)) rfl SM.m SM.k SM.b (pa_cons (pv 6) (pa_cons (pe_lst (pa_cons (pv 5) (pa_cons (pv 5) pa_nil))) pa_nil))) (pe_one (pe_callZD SA.ok (hz _) rfl SA.m SA.k SA.b (pa_cons (pe_call IV.ok ((hz _).room.mono (by omega)) rfl IV.m IV.k IV.b .nil pass0 (pa_cons (pv 0) (pa_cons (pv 2) (pa_cons (pv 4) pa_nil)))) (pa_cons pe_bl pa_nil))))))))), ?_⟩
  have z3 : ∀ {k : Nat}, k ≤ 20 → k ≤ sizeLine := fun h => Nat.le_trans h (by decide)
  refine ⟨_, rfl, _, rfl, _, rfl, _, rfl, t, vF, vG, vD, bkOf d, n, e, x, h, rfl, tb, vo.bk, hk.1, hh.1, hh.2.1, hv, vo.k, vo.pl, vo.val, hn, vo.nn, fun l H1 ws s1 hl hD => ?_⟩
  refine ⟨l, ws, rfl, .inl ⟨SqL.of hl, fun p o hp ho => ?_⟩⟩
  have s2 := same_new hp (.frz o (.tup ws))
  have s12 := s1.trans s2
  have D2 : Dq K (upd H1 p (.frz o (.tup ws))) (.ref p) (.tuple ((roads (bkOf d) (hoD h) n e x).map pathD)) := .tup (SqP.of upd_same ho) (DqAll.mono s2 _ _ hD)
  generalize upd H1 p (.frz o (.tup ws)) = H2 at s2 s12 D2 ⊢
  have gd := roads_gd (g := hoD h) vo.val hn
  obtain ⟨o1, o2, o3⟩ := list_ok (l := [.tuple ((roads (bkOf d) (hoD h) n e x).map pathD), .tuple ((roads (bkOf d) (hoD h) n e x).map pathD)]) (fun d' m => by
    rcases List.mem_cons.mp m with z | m
    · rw [z]; exact gd
    · rw [List.mem_singleton.mp m]; exact gd) (by show 2 ≤ 8; decide)
  refine ⟨_, rfl, _, rfl, _, rfl, _, rfl, vL, vF, vG, vD, d, e, x, h, n, rfl, hb.on s12, hk.on s12, hh.on s12, Dq.mono s12 _ _ hv, vo, fun r1 H3 s3 D3 => ?_⟩
  have s13 := s12.trans s3
  refine ⟨_, rfl, _, rfl, _, rfl, _, rfl, _, _, _, _, rfl, vL, vF, vG, vD, d, e, x, h, n, rfl, hb.on s13, hk.on s13, hh.on s13, Dq.mono s13 _ _ hv, vo, fun r2 H4 s4 D4 => ⟨z3 (by show 2 ≤ 20; decide), fun gl hgl => ?_⟩⟩
  have s5 := same_new hgl (.lst [r1, r2])
  have s35 := s3.trans (s4.trans s5)
  refine ⟨_, rfl, _, rfl, _, rfl, z3 (by show 2 ≤ 20; decide), fun dl hdl => ?_⟩
  have s6 := same_new hdl (.lst [.ref p, .ref p])
  have s56 := s5.trans s6
  have s36 := s3.trans (s4.trans s56)
  refine ⟨gl, dl, _, rfl, .lst (SqL.of (s6 _ _ upd_same)) (.cons (Dq.mono (s4.trans s56) _ _ D3) (.cons (Dq.mono s56 _ _ D4) .nil)), .lst (SqL.of upd_same) (.cons (Dq.mono s36 _ _ D2) (.cons (Dq.mono s36 _ _ D2) .nil)), o1, o2, o3, _, rfl, iteT ?_⟩
  have s16 := s12.trans s36
  refine ⟨_, rfl, _, rfl, _, rfl, vL, vF, vD, d, e, x, n, rfl, hb.on s16, hk.on s16, Dq.mono s16 _ _ hv, vo, fun H7 s7 => ?_⟩
  obtain ⟨b1, b2, b3⟩ := one_bl true
  exact ⟨.bl true, .bl true, _, rfl, .bl true, .bl true, b1, b2, Nat.le_trans b3 (by decide), q H7 (s16.trans s7)⟩
end
end Toy
set_option Elab.async false
set_option linter.all false
set_option maxRecDepth 100000
set_option maxHeartbeats 4000000
namespace Toy
open PySem L2 PyProof.Rows LamX
/-! ### a part of the heap that holds the tuples and some told -/
def keepG (H : Hp) (l : List Addr) : Hp := fun b => if b ∈ l then H b else tupsOf H b
theorem keep_at {H : Hp} {l : List Addr} {a : Addr} (h : a ∈ l) : keepG H l a = H a := if_pos h
theorem keep_sub {H : Hp} {l : List Addr} : Same (keepG H l) H := fun b u h => by
  unfold keepG at h
  split at h
  · exact h
  · exact tups_sub b u h
theorem keep_stt {H : Hp} {wl : Addr} {l : List Addr} (w : WellAt H wl) (n : wl ∉ l) : Stt wl (keepG H l) H := ⟨keep_sub, by
  show (if wl ∈ l then H wl else tupsOf H wl) = none
  rw [if_neg n]
  exact (tups_stt w).nw, w⟩
theorem keep_tup {H : Hp} {l : List Addr} : ∀ a o xs, H a = some (.frz o (.tup xs)) → keepG H l a = some (.frz o (.tup xs)) := fun a o xs h => by
  unfold keepG
  split
  · exact h
  · exact tups_at h
mutual
theorem Dq.extP {K : PySem.W.Frag} {H H' : Hp} (e : ∀ a o xs, H a = some (.frz o (.tup xs)) → H' a = some (.frz o (.tup xs))) : ∀ (d : PyData) (v : V), plB d = true → Dq K H v d → Dq K H' v d
  | .str x, _, _, .str _ => .str x
  | .int i, _, _, .int _ => .int i
  | .tuple ds, _, h, .tup q A => .tup (by
      rcases q with ⟨o, q, d⟩ | q
      · exact .inl ⟨o, e _ _ _ q, d⟩
      · exact .inr q) (DqAll.extP e ds _ h A)
  | .none, _, h, _ => nomatch h
  | .bool _, _, h, _ => nomatch h
  | .list _, _, h, _ => nomatch h
  | .dict _, _, h, _ => nomatch h
theorem DqAll.extP {K : PySem.W.Frag} {H H' : Hp} (e : ∀ a o xs, H a = some (.frz o (.tup xs)) → H' a = some (.frz o (.tup xs))) : ∀ (ds : List PyData) (vs : List V), plA ds = true → DqAll K H vs ds → DqAll K H' vs ds
  | [], _, _, .nil => .nil
  | d :: ds, _, h, .cons p r => by
    have h' : (plB d && plA ds) = true := h
    rw [Bool.and_eq_true] at h'
    exact .cons (Dq.extP e d _ h'.1 p) (DqAll.extP e ds _ h'.2 r)
end
theorem keep_dq {K : PySem.W.Frag} {H : Hp} {l : List Addr} {d : PyData} {v : V} (p : plB d = true) (h : Dq K H v d) : Dq K (keepG H l) v d := Dq.extP keep_tup _ _ p h
def BkA (bk : List (Str × PyData)) : Prop := ∀ p ∈ bk, plB p.2 = true
theorem paired_extP {K : PySem.W.Frag} {H H' : Hp} (e : ∀ a o xs, H a = some (.frz o (.tup xs)) → H' a = some (.frz o (.tup xs))) : ∀ {kvs : List (Key × V)} {bk : List (Str × PyData)}, BkA bk → Paired (TabR K H) kvs bk → Paired (TabR K H') kvs bk
  | _, _, _, .nil => .nil
  | _, _, B, .cons r t => .cons ⟨r.1, Dq.extP e _ _ (B _ List.mem_cons_self) r.2⟩ (paired_extP e (fun p m => B p (List.mem_cons_of_mem _ m)) t)
theorem keep_tab {K : PySem.W.Frag} {H : Hp} {l : List Addr} {t : Addr} {bk : List (Str × PyData)} (B : BkA bk) (m : t ∈ l) (h : Tab K H t bk) : Tab K (keepG H l) t bk := by
  obtain ⟨kvs, ht, pr⟩ := h
  exact ⟨kvs, by rw [keep_at m]; exact ht, paired_extP keep_tup B pr⟩
theorem Tab.mn {K : PySem.W.Frag} {wl t : Addr} {H H' : Hp} {bk : List (Str × PyData)} (w : WellAt H wl) (M : Mn wl H H') (n : t ≠ wl) (B : BkA bk) (h : Tab K H t bk) : Tab K H' t bk := by
  obtain ⟨kvs, ht, pr⟩ := h
  exact ⟨kvs, M _ _ n ht (fun ps z => by cases z), paired_extP (M.tup w) B pr⟩
/-! ### books: what the data are -/
theorem numOk_pl (d : PyData) (h : numOk d) : plB d = true := by
  obtain ⟨i, rfl, _⟩ := h
  rfl
section
variable {j : Nat} {ds : List PyData}
theorem row_of (b : BookL j ds) {p : Str × PyData} (m : p ∈ bkOf (.tuple ds)) : PyData.tuple [.str p.1, p.2] ∈ ds := by
  obtain ⟨r, mr, rfl⟩ := List.mem_map.mp m
  obtain ⟨y, k, rfl, _⟩ := b.rows r mr
  exact mr
theorem kOk_of {e : PyData} (b : BookL j ds) (f : FormAt j ds e) : kOk e := ⟨form_st f, Nat.le_trans (form_gd b f).1.k (by decide)⟩
theorem bkK_of (b : BookL j ds) : BkK (bkOf (.tuple ds)) := fun x k l => kOk_of b (row_form b (look_in b l)).1
theorem bkA_of (b : BookL j ds) : BkA (bkOf (.tuple ds)) := fun p m => st_pl _ (kOk_of b (row_form b (row_of b m)).1).1
theorem formIn_of {e : PyData} (f : FormAt j ds e) : FormIn (bkOf (.tuple ds)) e := by
  obtain ⟨n, hn, ff, _⟩ := f.lv.form
  have f24 : fB 24 e = true := fB_fuel ff hn
  exact ⟨f24, fun x mx => f.kn x (by rw [ms_fuel f24 (by decide : 24 ≤ 30)]; exact mx)⟩
theorem bkF_of (b : BookL j ds) : BkF (bkOf (.tuple ds)) := fun x k l => formIn_of (row_form b (look_in b l)).1
theorem bk_few (b : BookL j ds) : (bkOf (.tuple ds)).length ≤ 1000 := by
  have e : (bkOf (.tuple ds)).length = ds.length := List.length_map ..
  have := b.few
  omega
theorem valOk_of {e x : PyData} {n : Nat} (b : BookL j ds) (f : FormAt j ds e) (v : Val numOk (bkOf (.tuple ds)) n e x) (nn : n ≤ 1000) : ValOk (.tuple ds) e x n := ⟨bkK_of b, bk_few b, kOk_of b f, val_pl numOk_pl v, v, nn⟩
theorem bookAt_of2 {K : PySem.W.Frag} {H : Hp} {v : V} (b : BookL j ds) (hj : j ≤ 3) (hd : Dq K H v (.tuple ds)) : BookAt K 120 H v (.tuple ds) := by
  have rows : ∀ r ∈ ds, gdB 0 r = true ∧ r.depth ≤ 25 := fun r m => by
    obtain ⟨y, k, rfl, _⟩ := b.rows r m
    obtain ⟨f, ty, _⟩ := row_form b m
    have z := row_gdG (j := 0) ty (by omega) (form_gd b f).1
    exact ⟨z.g, z.k⟩
  have g : gdB 0 (.tuple ds) = true := gdA_iff.mpr fun r m => (rows r m).1
  have d := dA_le fun r m => (rows r m).2
  refine ⟨hd, topP_of hd, gdB_txt (by decide) _ g, ?_, b.tb 120 (by decide)⟩
  simp only [PyData.depth]
  omega
end
/-! ### a book by a hole: how great -/
theorem kt_by {ok : Str → Prop} (ho : ∀ x, ok x → nmB (.str x) = true) {n : Nat} {k : PyData} {h : Ho} (t : KT ok n k) (hn : n ≤ 6) : (ms 30 (kmd 30 k h)).2.1 ≤ 447 := by
  have t6 := t.up hn
  obtain ⟨f6, _⟩ := kt_facts ho t6 (m := 6) (by decide)
  rw [kmd_fuel f6 (by decide)]
  have a := b_le (h := h) f6 (m := 30) (by decide)
  have c := (kt_nums t6 (m := 6) (by decide)).2.1
  have e : (nums 6).2.1 = 447 := by decide
  omega
theorem by_parts {ns : List Str} {ds ds' : List PyData} {h : Ho} (b : BookD ns ds) (a : ByH ds ds' h) : ∀ r ∈ ds', (ms 30 (rowK r)).2.1 ≤ 447 := fun r mr => by
  have b0 := bookD_L b
  have ho : ∀ x ∈ ns, nmB (.str x) = true := fun x hx => (bookD_names b x hx).2.2
  have kt : ∀ {y k}, lookB (bkOf (.tuple ds)) y = some k → KT (· ∈ ns) 6 k := fun {y k} l => by
    obtain ⟨y', k', e, _, _, t, _⟩ := b.rows _ (look_in b0 l)
    injection e with e
    injection e with _ e
    injection e with e _
    rw [e]
    exact t
  obtain ⟨x, v, rfl, o | ⟨y, k, l, rfl, rfl⟩⟩ := a.rows r mr
  · have z := (kt_nums (kt o) (m := 30) (by decide)).1
    have e : (nums 6).1 = 63 := by decide
    show (ms 30 v).2.1 ≤ 447
    omega
  · exact kt_by ho (kt l) (by decide)
theorem by_few {ns : List Str} {ds ds' : List PyData} {h : Ho} (b : BookD ns ds) (a : ByH ds ds' h) : ds'.length ≤ 8 := by
  have nlen : ds.length = ns.length := by rw [← b.names, List.length_map]
  have := b.few
  have := a.few
  omega
theorem by_book {ns : List Str} {ds ds' : List PyData} {h : Ho} (b : BookD ns ds) (k : HoW h) (hin : ∀ y0, h = .nm y0 → (lookB (bkOf (.tuple ds)) y0).isSome = true) (a : ByH ds ds' h) : BookL 1 ds' :=
  closure (bookD_L b) (by decide) (fun r m => Nat.le_trans (by_parts b a r m) (by decide)) (Nat.le_trans (by_few b a) (by decide)) k hin a
theorem by_gd {ns : List Str} {ds ds' : List PyData} {h : Ho} (b : BookD ns ds) (k : HoW h) (hin : ∀ y0, h = .nm y0 → (lookB (bkOf (.tuple ds)) y0).isSome = true) (a : ByH ds ds' h) : Gd (.tuple ds') 0 100000 30 := by
  have b' := by_book b k hin a
  have lf := by_few b a
  have rw_ := rows_w (l := ds') fun r m => by
    obtain ⟨y, k, rfl, _⟩ := b'.rows r m
    obtain ⟨f, ty, _⟩ := row_form b' m
    exact ⟨y, k, rfl, txt_up ty (by decide), (form_gd b' f).2⟩
  have ta := sumN_le (by_parts b a)
  refine gd_tuple (fun r m => ?_) (by omega) (by omega)
  obtain ⟨y, k, rfl, _⟩ := b'.rows r m
  obtain ⟨f, ty, _⟩ := row_form b' m
  have z := row_gdG (j := 0) ty (by decide) (form_gd b' f).1
  exact ⟨z.g, by have := z.k; omega⟩
theorem list_ok2 {a b : PyData} (ga : Gd a 0 100000 30) (gb : Gd b 0 100000 30) : (PyData.list [a, b]).showable = true ∧ (PyData.list [a, b]).shown.length ≤ sizeLine ∧ (PyData.list [a, b]).depth ≤ 60 := by
  have g : Gd (.list [a, b]) 0 200100 31 := gd_list (fun d m => by
    rcases List.mem_cons.mp m with e | m
    · rw [e]; exact ⟨ga.g, by have := ga.k; omega⟩
    · rw [List.mem_singleton.mp m]; exact ⟨gb.g, by have := gb.k; omega⟩) (by
    have x := ga.w
    have y := gb.w
    simp only [PyData.weightAll]
    omega) (by decide)
  exact ⟨gdB_show (by decide) _ g.g, Nat.le_trans (gd_shown (by decide) g.g) (Nat.le_trans (Nat.add_le_add_right (Nat.mul_le_mul_left 35 g.w) 33) (by decide)), Nat.le_trans g.k (by decide)⟩
/-! ### what stands behind the law's first rows -/
structure RtF (K : PySem.W.Frag) (wl : Addr) (H : Hp) (nl t o : Addr) (vL vF : V) (ns : List Str) (ds : List PyData) (e : PyData) (acc : List (Key × V)) : Prop where
  nlw : nl ≠ wl
  tw : t ≠ wl
  ow : o ≠ wl
  w : WellAt H wl
  hN : H nl = some (.lst (ns.map V.str))
  tb : Tab K H t (bkOf (.tuple ds))
  ho : H o = some (.dK acc)
  dL : Dq K H vL (.tuple ds)
  dF : Dq K H vF e
theorem RtF.mn {K : PySem.W.Frag} {wl : Addr} {H H' : Hp} {nl t o : Addr} {vL vF : V} {ns : List Str} {ds : List PyData} {e : PyData} {acc : List (Key × V)} {j j' : Nat} {ds0 : List PyData} (r : RtF K wl H nl t o vL vF ns ds e acc) (b : BookL j ds) (f : FormAt j' ds0 e) (w' : WellAt H' wl) (M : Mn wl H H') : RtF K wl H' nl t o vL vF ns ds e acc :=
  ⟨r.nlw, r.tw, r.ow, w', M _ _ r.nlw r.hN (fun ps z => by cases z), r.tb.mn r.w M r.tw (bkA_of b), M _ _ r.ow r.ho (fun ps z => by cases z), Dq.ext (M.tup r.w) _ _ (book_st b) r.dL, Dq.ext (M.tup r.w) _ _ (form_st f) r.dF⟩
theorem RtF.stt {K : PySem.W.Frag} {wl : Addr} {H : Hp} {nl t o : Addr} {vL vF : V} {ns : List Str} {ds : List PyData} {e : PyData} {acc : List (Key × V)} (r : RtF K wl H nl t o vL vF ns ds e acc) : Stt wl (keepG H [t, o]) H := keep_stt r.w (fun m => by
  rcases List.mem_cons.mp m with z | m
  · exact r.tw z.symm
  · exact r.ow (List.mem_singleton.mp m).symm)
end Toy
set_option Elab.async false
set_option linter.all false
set_option maxRecDepth 100000
set_option maxHeartbeats 8000000
namespace Toy
open PySem L2 PyProof.Rows LamX
abbrev sRight : Stmt := top 82
abbrev rgM : List Str := ["spring", "lib", "names", "of", "heavy", "form", "lap", "datum", "gaps", "gap", "more", "past", "frame", "name", "own", "other"]
section
variable {P : Program} {w : World} {K : PySem.W.Frag} {mg : Str → Option Value} {base : Heap}
theorem scRg : FnScope rgM ["spring"] (defScope sRight) := ⟨rfl, rfl, rfl, by decide +kernel, rfl, by decide +kernel, by decide +kernel⟩
theorem how_in {ns : List Str} {ds : List PyData} (bD : BookD ns ds) {h : Ho} (hh : ∀ y, h = .nm y → y ∈ ns) : HoW h ∧ ∀ y0, h = .nm y0 → (lookB (bkOf (.tuple ds)) y0).isSome = true := by
  refine ⟨?_, fun y0 e => bookD_in bD y0 (hh y0 e)⟩
  cases h with
  | th => exact trivial
  | nm y =>
    obtain ⟨a1, a2, _⟩ := bookD_names bD y (hh y rfl)
    exact ⟨a1, a2.2, a2.1⟩
theorem ok_right {f PT gLB gOF gHV gSF gDA gP gGP gFD gLY gBY gWT gSM gBB gKB : Addr} {fd dLB dOF dHV dSF dDA dP dGP dFD dLY dBY dWT dSM dBB dKB : FuncData} (F : Fun K "_law_right" "_law_right" sRight f fd) (RN : Nr mg) (AL : mg "all" = none)
    (LB : Gv P w K mg base 13 "_law_lib" gLB dLB ["spring", "left"] (spLb K)) (OF : Gv P w K mg base 1 "_law_of" gOF dOF ["lib"] (spOfL K)) (HV : Gv P w K mg base 26 "_law_heavy" gHV dHV ["of"] (spHv K)) (SF : Gv P w K mg base 26 "_law_some_form" gSF dSF ["spring", "names", "heavy"] (spSf K))
    (DA : Gv P w K mg base 70 "_law_datum" gDA dDA ["spring", "of", "heavy", "form", "left"] (spDa K 45)) (PT' : Gv P w K mg base 2 "_law_pick" gP dP ["spring", "some"] (spPick K)) (PL : FnOk P w K mg base CX0 2 gP dP ["spring", "some"] (spPickL K)) (GP : Gv P w K mg base 3 "_law_gap" gGP dGP ["spring", "names"] (spGp K))
    (FD : GvZ (RoomG 127) P w K mg base "_law_is_found" gFD dFD ["lib", "of", "form", "gap", "datum"] (spFd K)) (LY : Gv P w K mg base 32 "_law_lib_by" gLY dLY ["lib", "gap"] (spLy K)) (BY : Gv P w K mg base 31 "_law_by" gBY dBY ["form", "gap"] (spMb K 30)) (WT : Gv P w K mg base 25 "_law_weight" gWT dWT ["heavy", "form"] (spWt K 24))
    (SM : GvZ (RoomG 1) P w K mg base "_law_is" gSM dSM ["gave", "due"] (spSame K)) (BB : Gv P w K mg base 65 "book_by" gBB dBB ["book", "hole"] (spBb K 120 PT)) (KB : Gv P w K mg base 67 "kind_by" gKB dKB ["book", "kind", "hole"] (spKb K 120)) : FnZ (RoomG 128) P w K mg base f fd ["spring"] (spRi PT) := by
  refine F.okZ true scRg (fun A z => z.depth) (fun _ A z => z.room.hd) (fun vs H Q E h => ?_) (fun cdv A outer s H vs Q hz0 h => ?_)
  · obtain ⟨wl, rfl, _⟩ := h
    rfl
  obtain ⟨wl, rfl, w0, T0, q⟩ := h
  have hz : ∀ env, RoomG 127 (A.deeper env) := fun env => hz0.deeper env
  refine ⟨_, (pss_cons (ps_set (i := 1) scRg.nd rfl (.inl rfl) (pe_call LB.ok ((hz _).room.mono (by omega)) rfl LB.m LB.k LB.b .nil pass0 (pa_cons (pv 0) (pa_cons pe_int pa_nil))))
    (pss_cons (ps_asg (pe_tup (pa_cons (pe_lc (own := [("name", 13), ("own", 14)]) (g := gTup K 2 (gCons (gName 13) (gCons (gName 14) gNil))) (tt := tYes) (te := tVar 13) rfl scRg.nd (pi_tup (pv 1)) (blkOk_by (own := [("name", 13), ("own", 14)]) (N := rgM) (sc := defScope sRight) (by decide +kernel)) (fun _ _ _ _ _ => pg_tup rfl (pgs_cons (pg_name (i := 13) scRg.nd rfl (.inl rfl)) (pgs_cons (pg_name (i := 14) scRg.nd rfl (.inl rfl)) pgs_nil))) (fun _ _ _ _ _ => pts_nil) (fun _ _ _ _ _ => (pv 13))) (pa_cons (pe_call OF.ok ((hz _).room.mono (by omega)) rfl OF.m OF.k OF.b .nil pass0 (pa_cons (pv 1) pa_nil)) pa_nil))) (pg_tup rfl (pgs_cons (pg_name (i := 2) scRg.nd rfl (.inl rfl)) (pgs_cons (pg_name (i := 3) scRg.nd rfl (.inr rfl)) pgs_nil))))
    (pss_cons (ps_set (i := 4) scRg.nd rfl (.inl rfl) (pe_call HV.ok ((hz _).room.mono (by omega)) rfl HV.m HV.k HV.b .nil pass0 (pa_cons (pv 3) pa_nil)))
    (pss_cons (ps_set (i := 5) scRg.nd rfl (.inl rfl) (pe_call SF.ok ((hz _).room.mono (by omega)) rfl SF.m SF.k SF.b .nil pass0 (pa_cons (pv 0) (pa_cons (pv 2) (pa_cons (pv 4) pa_nil)))))
    (pss_cons (ps_for PassesOwn.never rfl (pi_range1 (by rfl) RN.range (pa_cons pe_int pa_nil)) (pg_name (i := 6) scRg.nd rfl (.inl rfl)) (pss_cons (ps_set (i := 7) scRg.nd rfl (.inl rfl) (pe_call DA.ok ((hz _).room.mono (by omega)) rfl DA.m DA.k DA.b .nil pass0 (pa_cons (pv 0) (pa_cons (pv 3) (pa_cons (pv 4) (pa_cons (pv 5) (pa_cons (pe_op op_add pe_int (pe_call PT'.ok ((hz _).room.mono (by omega)) rfl PT'.m PT'.k PT'.b .nil pass0 (pa_cons (pv 0) (pa_cons (pe_tup (pa_cons pe_int (pa_cons pe_int (pa_cons pe_int (pa_cons pe_int pa_nil))))) pa_nil)))) pa_nil)))))))
    (pss_cons (ps_set (i := 8) scRg.nd rfl (.inl rfl) (pe_lst (pa_cons (pe_tupN (pa_cons pe_str pa_nil)) (pa_cons (pe_call GP.ok ((hz _).room.mono (by omega)) rfl GP.m GP.k GP.b .nil pass0 (pa_cons (pv 0) (pa_cons (pv 2) pa_nil))) (pa_cons (pe_tupN (pa_cons pe_str (pa_cons (pe_call PL ((hz _).room.mono (by omega)) rfl PT'.m PT'.k PT'.b .nil pass0 (pa_cons (pv 0) (pa_cons (pv 2) pa_nil))) pa_nil))) pa_nil)))))
    (pss_one (ps_for PassesOwn.never rfl (pi_list (pv 8)) (pg_name (i := 9) scRg.nd rfl (.inl rfl)) (pss_one (ps_if (pt_not (pt_val (pe_callZD FD.ok ((hz _).mono (by omega)) rfl FD.m FD.k FD.b (pa_cons (pv 1) (pa_cons (pv 3) (pa_cons (pv 5) (pa_cons (pv 9) (pa_cons (pv 7) pa_nil)))))))) (pss_one (ps_ret pe_bl)) pss_nil)))))))
    (pss_cons (ps_set (i := 9) scRg.nd rfl (.inl rfl) (pe_call GP.ok ((hz _).room.mono (by omega)) rfl GP.m GP.k GP.b .nil pass0 (pa_cons (pv 0) (pa_cons (pv 2) pa_nil))))
    (pss_cons (ps_asg (pe_tup (pa_cons (pe_call LY.ok ((hz _).room.mono (by omega)) rfl LY.m LY.k LY.b .nil pass0 (pa_cons (pv 1) (pa_cons (pv 9) pa_nil))) (pa_cons (pe_call BY.ok ((hz _).room.mono (by omega)) rfl BY.m BY.k BY.b .nil pass0 (pa_cons (pv 5) (pa_cons (pv 9) pa_nil))) pa_nil))) (pg_tup rfl (pgs_cons (pg_name (i := 10) scRg.nd rfl (.inr rfl)) (pgs_cons (pg_name (i := 11) scRg.nd rfl (.inr rfl)) pgs_nil))))
    (pss_cons (ps_set (i := 3) scRg.nd rfl (.inr rfl) (pe_call OF.ok ((hz _).room.mono (by omega)) rfl OF.m OF.k OF.b .nil pass0 (pa_cons (pv 10) pa_nil)))
    (pss_cons (ps_set (i := 4) scRg.nd rfl (.inl rfl) (pe_call HV.ok ((hz _).room.mono (by omega)) rfl HV.m HV.k HV.b .nil pass0 (pa_cons (pv 3) pa_nil)))
    (pss_cons (ps_if (pt_cmpR op_gt (pe_call WT.ok ((hz _).room.mono (by omega)) rfl WT.m WT.k WT.b .nil pass0 (pa_cons (pv 4) (pa_cons (pv 11) pa_nil))) pe_int (nomark _)) (pss_one (ps_ret pe_bl)) pss_nil)
    (pss_cons (ps_if (pt_not (pt_val (pe_callZD SM.ok ((hz _).mono (by omega)) rfl SM.m SM.k SM.b (pa_cons (pe_lst (pa_cons (pe_call BB.ok ((hz _).room.mono (by omega)) rfl BB.m BB.k BB.b .nil pass0 (pa_cons (pv 1) (pa_cons (pv 9) pa_nil))) (pa_cons (pe_call KB.ok ((hz _).room.mono (by omega)) rfl KB.m KB.k KB.b .nil pass0 (pa_cons (pv 1) (pa_cons (pv 5) (pa_cons (pv 9) pa_nil)))) pa_nil))) (pa_cons (pe_lst (pa_cons (pv 10) (pa_cons (pv 11) pa_nil))) pa_nil))))) (pss_one (ps_ret pe_bl)) pss_nil)
    (pss_cons (ps_set (i := 12) scRg.nd rfl (.inr rfl) (pe_call DA.ok ((hz _).room.mono (by omega)) rfl DA.m DA.k DA.b .nil pass0 (pa_cons (pv 0) (pa_cons (pv 3) (pa_cons (pv 4) (pa_cons (pv 11) (pa_cons pe_int pa_nil)))))))
    (pss_one (ps_ret (pe_callB (cr_all rfl) rfl AL (by decide +kernel) (pa_cons (pe_lc (own := [("other", 15)]) (g := gName 15) (tt := tYes) (te := tCallZ (spFd K) (tCons (tVar 10) (tCons (tVar 3) (tCons (tVar 11) (tCons (tVar 15) (tCons (tVar 12) tNil)))))) rfl scRg.nd (pi_tup (pe_tup (pa_cons (pe_tupN (pa_cons pe_str pa_nil)) (pa_cons (pe_call GP.ok ((hz _).room.mono (by omega)) rfl GP.m GP.k GP.b .nil pass0 (pa_cons (pv 0) (pa_cons (pv 2) pa_nil))) pa_nil)))) (blkOk_by (own := [("other", 15)]) (N := rgM) (sc := defScope sRight) (by decide +kernel)) (fun _ _ _ _ _ => pg_name (i := 15) scRg.nd rfl (.inl rfl)) (fun _ _ _ _ _ => pts_nil) (fun _ _ _ _ _ => (pe_callZD FD.ok ((hz _).mono (by omega)) rfl FD.m FD.k FD.b (pa_cons (pv 10) (pa_cons (pv 3) (pa_cons (pv 11) (pa_cons (pv 15) (pa_cons (pv 12) pa_nil)))))))) pa_nil)))))))))))))))), ?_⟩
  have z3 : ∀ {k : Nat}, k ≤ 200 → k ≤ sizeLine := fun h => Nat.le_trans h (by decide)
  have z4 : ∀ {k : Nat}, k ≤ 200 → k < sizeLine := fun h => Nat.lt_of_le_of_lt h (by decide)
  -- the book
  refine ⟨_, rfl, wl, tupsOf H, rfl, tups_stt w0, fun vL H1 G1 ns ds g1 D1 bD => ?_⟩
  have D1 := Dq.mono g1.gh _ _ D1
  have w1 := g1.well
  have T1 := tabs_but T0 w0 g1.but
  have M1 : Mn wl H H1 := .but g1.but
  have b0 := bookD_L bD
  obtain ⟨aL, xs, rfl, hxs, hA⟩ := dq_tuple D1
  have hl := hA.len
  have nsf := bookD_names bD
  have nfew := bD.few
  have nlen : ds.length = ns.length := by rw [← bD.names, List.length_map]
  have n1 : 1 ≤ ns.length := by
    cases e : ns with
    | nil => exact absurd e bD.ne
    | cons _ _ => simp
  -- its names
  refine ⟨_, rfl, aL, rfl, ⟨_, hxs⟩, fun nl hnl => ?_⟩
  refine lc_it (walk_tup (xs := xs)) (fun i H2 => Same H1 H2 ∧ H2 nl = some (.lst (((ds.take i).map rowN).map V.str))) ⟨same_new hnl _, upd_same⟩ (fun i H2 _ z => z.1.seqT hxs) ?_ ?_
  · rintro i y H2 _ hi ⟨s2, hL⟩ ⟨rfl, hy⟩
    obtain ⟨e, he, hde⟩ := dqAll_at _ _ _ hA hy
    obtain ⟨y', k', rfl, _⟩ := bD.rows e (List.mem_of_getElem? he)
    obtain ⟨ad, ws, rfl, hw, hB⟩ := dq_tuple hde
    obtain ⟨x0, rs, rfl, g0, hB⟩ := dqAll_cons hB
    obtain ⟨x1, rs, rfl, g1', hB⟩ := dqAll_cons hB
    obtain rfl := dqAll_nil hB
    cases g0
    refine ⟨ad, _, rfl, s2.seqT hw, rfl, _, _, rfl, _, _, rfl, rfl, rfl, ?_⟩
    simp only [tYes, ↓reduceIte]
    refine ⟨_, rfl, _, hL, ?_, fun b o z => by rw [upd_ne (ne_of_none z hnl)]; exact s2 _ _ z, ?_⟩
    · rw [List.length_map, List.length_map]
      exact z4 (Nat.le_trans (List.length_take_le' _ _) (by omega))
    · rw [upd_same, List.take_add_one, he]
      simp only [Option.toList, List.map_append, List.map_cons, List.map_nil]
      rfl
  rintro H2 ⟨s2, hN2⟩
  rw [hl, List.take_length, bD.names] at hN2
  have nlw : nl ≠ wl := fun z => by rw [z] at hnl; exact well_ne w1 hnl
  have w2 := well_same w1 s2
  -- its dict
  refine ⟨_, rfl, .ref aL, ds, 0, rfl, Dq.mono s2 _ _ D1, b0, fun t H3 kvs s3 ht0 ht3 pr3 => ?_⟩
  refine ⟨z3 (by show 2 ≤ 200; decide), fun tp htp => ?_⟩
  have s4 := same_new htp (.tup [.ref nl, .ref t])
  refine ⟨tp, _, rfl, SqT.of upd_same, rfl, _, _, rfl, _, _, rfl, rfl, ?_⟩
  have s34 := s3.trans s4
  have s24 := s2.trans s34
  have tw : t ≠ wl := fun z => by rw [z] at ht0; exact well_ne w2 ht0
  have hN4 := s34 _ _ hN2
  have ht4 := s4 _ _ ht3
  have pr4 := paired_imp (R' := TabR K (upd H3 tp (.tup [.ref nl, .ref t]))) (fun kv p z => ⟨z.1, Dq.mono s34 _ _ z.2⟩) pr3
  have D4 := Dq.mono s24 _ _ D1
  generalize upd H3 tp (.tup [.ref nl, .ref t]) = H4 at s4 s34 s24 hN4 ht4 pr4 D4 ⊢
  have w4 := well_same w1 s24
  -- the weights
  refine ⟨_, rfl, t, kvs, ds, 0, rfl, ht4, pr4, b0, fun o H5 acc hw s5 ho0 ho5 hv5 fal5 => ?_⟩
  have ow : o ≠ wl := fun z => by rw [z] at ho0; exact well_ne w4 ho0
  have s25 := s24.trans s5
  have w5 := well_same w4 s5
  have T5 := T1.ext s25
  have M5 := M1.trans (Mn.same s25)
  have tb5 : Tab K H5 t (bkOf (.tuple ds)) := ⟨kvs, s5 _ _ ht4, paired_imp (fun kv p z => ⟨z.1, Dq.mono s5 _ _ z.2⟩) pr4⟩
  have hN5 := s5 _ _ hN4
  have D5 := Dq.mono s5 _ _ D4
  have to : wl ∉ [t, o] := fun m => by
    rcases List.mem_cons.mp m with z | m
    · exact tw z.symm
    · exact ow (List.mem_singleton.mp m).symm
  -- a kind
  refine ⟨_, rfl, _, rfl, _, rfl, wl, nl, o, keepG H5 [t, o], ns, bkOf (.tuple ds), acc, hw, rfl, keep_stt w5 to, hN5, nlw, n1, by omega, (fun x m => ⟨(nsf x m).2.1.1, (nsf x m).2.2, bookD_in bD x m⟩), (by rw [keep_at (by simp)]; exact ho5), hv5, fal5, fun vF H6 G6 e g6 D6 t6 wl6 => ?_⟩
  have D6 := Dq.mono g6.gh _ _ D6
  have fe := kt_formAt bD t6
  have M56 : Mn wl H5 H6 := .but g6.but
  have w6 := g6.well
  have T6 := tabs_but T5 w5 g6.but
  have M6 := M5.trans M56
  have r6 : RtF K wl H6 nl t o (.ref aL) vF ns ds e acc := ⟨nlw, tw, ow, w6, g6.but _ _ nlw hN5, tb5.mn w5 M56 tw (bkA_of b0), g6.but _ _ ow ho5, Dq.ext (M56.tup w5) _ _ (book_st b0) D5, D6⟩
  refine ⟨2, rfl, by decide, by decide, ?_⟩
  refine for_range (lo := 0) (n := 2) (fun i σ H' => ∃ c6 c7 c8 c9, σ = [some (.ref wl), some (.ref aL), some (.ref nl), some (.ref t), some (.ref o), some vF, c6, c7, c8, c9, none, none, none, none, none, none] ∧ RtF K wl H' nl t o (.ref aL) vF ns ds e acc ∧ Tabs (lamT PT) H' ∧ Mn wl H H')
    ⟨none, none, none, none, rfl, r6, T6, M6⟩ ?_ ?_
  · rintro i σ H7 hi ⟨c6, c7, c8, c9, rfl, r7, T7, M7⟩
    -- a value
    refine ⟨_, rfl, _, rfl, _, rfl, _, rfl, _, rfl, z3 (by show 4 ≤ 200; decide), fun p hp => ⟨wl, p, [.int 0, .int 10, .int 20, .int 30], rfl, well_new r7.w hp _, SqT.of upd_same, (by show 1 ≤ 4; decide), (by show 4 < 1073741824; decide), fun v8 H8 mv w8 b8 => ?_⟩⟩
    obtain ⟨i8, rfl, l8⟩ : ∃ i8 : Nat, v8 = .int (i8 : Int) ∧ i8 ≤ 30 := by
      rcases List.mem_cons.mp mv with e | mv
      · exact ⟨0, e, by decide⟩
      rcases List.mem_cons.mp mv with e | mv
      · exact ⟨10, e, by decide⟩
      rcases List.mem_cons.mp mv with e | mv
      · exact ⟨20, e, by decide⟩
      exact ⟨30, List.mem_singleton.mp mv, by decide⟩
    have M78 : Mn wl H7 H8 := (Mn.same (same_new hp _)).trans (.but b8)
    have T8 := tabs_but (T7.ext (same_new hp _)) (well_new r7.w hp _) b8
    have r8 := r7.mn b0 fe w8 M78
    have em : (V.int (15 + (i8 : Int))) = .int ((15 + i8 : Nat) : Int) := by
      congr 1
    refine ⟨_, _, rfl, rfl, wl, t, o, vF, 15 + i8, keepG H8 [t, o], bkOf (.tuple ds), acc, hw, e, (by show [V.ref wl, V.ref t, V.ref o, vF, V.int (15 + (i8 : Int))] = _; rw [em]), by omega, by omega, r8.stt, keep_tab (bkA_of b0) (by simp) r8.tb, (by rw [keep_at (by simp)]; exact r8.ho), hv5, fal5, bkF_of b0, formIn_of fe, keep_dq (st_pl _ (form_st fe)) r8.dF, by omega, fun vD H9 G9 x g9 D9 val => ?_⟩
    have D9 := Dq.mono g9.gh _ _ D9
    have vo := valOk_of b0 fe val (by omega)
    have M89 : Mn wl H8 H9 := .but g9.but
    have w9 := g9.well
    have T9 := tabs_but T8 r8.w g9.but
    have r9 := r8.mn b0 fe w9 M89
    -- the holes
    refine ⟨z3 (by show 1 ≤ 200; decide), fun p1 o1 hp1 ho1 => ?_⟩
    have s10 := same_new hp1 (.frz o1 (.tup [.str "thing"]))
    have w10 := well_same w9 s10
    have E1 : Dq K (upd H9 p1 (.frz o1 (.tup [.str "thing"]))) (.ref p1) (hoD .th) := .tup (SqP.of upd_same ho1) (.cons (.str _) .nil)
    generalize upd H9 p1 (.frz o1 (.tup [.str "thing"])) = H10 at s10 w10 E1 ⊢
    refine ⟨_, rfl, _, rfl, wl, nl, tupsOf H10, ns, rfl, tups_stt w10, s10 _ _ r9.hN, nlw, n1, by omega, fun v2 H11 G11 h2 g11 E2 hh2 => ?_⟩
    have E2 := Dq.mono g11.gh _ _ E2
    have w11 := g11.well
    have M1011 : Mn wl H10 H11 := .but g11.but
    refine ⟨_, rfl, _, rfl, wl, nl, ns.map V.str, rfl, w11, SqL.of (g11.but _ _ nlw (s10 _ _ r9.hN)), nlw, (by rw [List.length_map]; omega), (by rw [List.length_map]; omega), fun v3 H12 mv3 w12 b12 => ?_⟩
    obtain ⟨y3, my3, rfl⟩ := strs_of mv3
    refine ⟨z3 (by show 2 ≤ 200; decide), fun p3 o3 hp3 ho3 => ⟨z3 (by show 3 ≤ 200; decide), fun gl hgl => ?_⟩⟩
    have s13 := same_new hp3 (.frz o3 (.tup [.str "name", .str y3]))
    have s14 := same_new hgl (.lst [.ref p1, v2, .ref p3])
    have s1314 := s13.trans s14
    have M1112 : Mn wl H11 H12 := .but b12
    have M1114 := M1112.trans (Mn.same s1314)
    have M1014 := M1011.trans M1114
    have M914 := (Mn.same s10).trans M1014
    have hgl14 : upd (upd H12 p3 (.frz o3 (.tup [.str "name", .str y3]))) gl (.lst [.ref p1, v2, .ref p3]) gl = some (.lst [.ref p1, v2, .ref p3]) := upd_same
    have E3 : Dq K (upd (upd H12 p3 (.frz o3 (.tup [.str "name", .str y3]))) gl (.lst [.ref p1, v2, .ref p3])) (.ref p3) (hoD (.nm y3)) := .tup (SqP.of (s14 _ _ upd_same) ho3) (.cons (.str _) (.cons (.str _) .nil))
    have w14 := well_same w12 s1314
    have T14 := (tabs_but (tabs_but (T9.ext s10) w10 g11.but) w11 b12).ext s1314
    generalize upd (upd H12 p3 (.frz o3 (.tup [.str "name", .str y3]))) gl (.lst [.ref p1, v2, .ref p3]) = H14 at s1314 M1114 M1014 M914 hgl14 E3 w14 T14 ⊢
    have r14 := r9.mn b0 fe w14 M914
    obtain ⟨kw2, hin2⟩ := how_in bD hh2
    obtain ⟨kw3, hin3⟩ := how_in bD (h := .nm y3) (fun y e => by cases e; exact my3)
    have E1 := Dq.ext (M1014.tup w10) _ _ (hoD_st (how_ok (h := .th) trivial)) E1
    have E2 := Dq.ext (M1114.tup w11) _ _ (hoD_st (how_ok kw2)) E2
    have D14 := Dq.extP (M914.tup w9) _ _ vo.pl D9
    have M14 := ((M7.trans M78).trans M89).trans M914
    refine ⟨_, rfl, gl, rfl, ⟨_, SqL.of hgl14⟩, ?_⟩
    refine for_it (walk_list (xs := [.ref p1, v2, .ref p3])) (fun k σ H' => ∃ c9, σ = [some (.ref wl), some (.ref aL), some (.ref nl), some (.ref t), some (.ref o), some vF, some (.int (0 + (i : Int))), some vD, some (.ref gl), c9, none, none, none, none, none, none] ∧ Same H14 H') ⟨_, rfl, Same.refl _⟩ (fun k σ H' _ ⟨_, _, z⟩ => SqL.of (z _ _ hgl14)) ?_ ?_
    · rintro k y σ H15' H15 hk ⟨c9, rfl, s15⟩ ⟨rfl, hy⟩
      obtain ⟨hk', Ek, kwk, hink⟩ : ∃ hk', Dq K H14 y (hoD hk') ∧ HoW hk' ∧ ∀ y0, hk' = .nm y0 → (lookB (bkOf (.tuple ds)) y0).isSome = true := by
        rcases k with _ | _ | _ | k
        · have e : V.ref p1 = y := by simpa using hy
          exact ⟨.th, by rw [← e]; exact E1, trivial, fun y0 z => nomatch z⟩
        · have e : v2 = y := by simpa using hy
          exact ⟨h2, by rw [← e]; exact E2, kw2, hin2⟩
        · have e : V.ref p3 = y := by simpa using hy
          exact ⟨.nm y3, by rw [← e]; exact E3, kw3, hin3⟩
        · simp only [List.length_cons, List.length_nil] at hk
          omega
      refine ⟨_, rfl, _, rfl, _, rfl, _, rfl, _, rfl, .ref aL, vF, y, vD, t, .tuple ds, e, x, hk', 15 + i8, rfl, bookAt_of2 b0 (by decide) (Dq.mono s15 _ _ r14.dL), kindAt_of b0 fe (Dq.mono s15 _ _ r14.dF), holeAt_of kwk hink (Dq.mono s15 _ _ Ek), Dq.mono s15 _ _ D14, vo, r14.tb.on s15, by omega, fun H16 s16 => ⟨_, rfl, iteF ⟨_, rfl, s15.trans s16⟩⟩⟩
    · rintro σ H15 ⟨c9, rfl, s15⟩
      exact ⟨_, _, _, _, rfl, r14.mn b0 fe (well_same r14.w s15) (Mn.same s15), T14.ext s15, M14.trans (Mn.same s15)⟩
  rintro σ H7 ⟨c6, c7, c8, c9, rfl, r7, T7, M7⟩
  have sL := book_st b0
  have sF := form_st fe
  -- a hole
  refine ⟨_, rfl, _, rfl, wl, nl, tupsOf H7, ns, rfl, tups_stt r7.w, r7.hN, nlw, n1, by omega, fun vG H8 G8 h g8 DG hh => ?_⟩
  have DG := Dq.mono g8.gh _ _ DG
  have w8 := g8.well
  have M78 : Mn wl H7 H8 := .but g8.but
  have T8 := tabs_but T7 r7.w g8.but
  have r8 := r7.mn b0 fe w8 M78
  have M8 := M7.trans M78
  obtain ⟨kw, hin⟩ := how_in bD hh
  have sG : stB (hoD h) = true := hoD_st (how_ok kw)
  -- the book by it
  refine ⟨_, rfl, _, rfl, wl, tupsOf H8, .ref aL, vG, ds, 0, h, rfl, tups_stt w8, tups_dq sL r8.dL, b0, by decide, tups_dq sG DG, kw, hin, fun vM H9 G9 ds' g9 DM by9 => ?_⟩
  have DM := Dq.mono g9.gh _ _ DM
  have w9 := g9.well
  have M89 : Mn wl H8 H9 := .but g9.but
  have T9 := tabs_but T8 w8 g9.but
  have r9 := r8.mn b0 fe w9 M89
  have M9 := M8.trans M89
  have DG := Dq.ext (M89.tup w8) _ _ sG DG
  have b' := by_book bD kw hin by9
  have sM := book_st b'
  obtain ⟨n0, hn0, ff, _⟩ := fe.lv.form
  have ff30 : fB 30 e = true := fB_fuel ff (by omega)
  have dF60 : e.depth ≤ 60 := Nat.le_trans (form_gd b0 fe).1.k (by decide)
  -- the kind by it
  refine ⟨_, rfl, _, rfl, H9, vF, vG, e, h, rfl, Same.refl H9, r9.dF, ff30, fe.tx, dF60, DG, how_ok kw, fun vP H10 G10 n10 DP => ?_⟩
  have DP := Dq.mono n10.gh _ _ DP
  have s10 := n10.hh
  have f' : FormAt 1 ds' (kmd 30 e h) := form_by b0 (by decide) fe kw hin by9 (Nat.le_trans (kt_by (fun x hx => (nsf x hx).2.2) t6 (by decide)) (by decide))
  have sP := form_st f'
  refine ⟨z3 (by show 2 ≤ 200; decide), fun tq htq => ?_⟩
  have s11 := same_new htq (.tup [vM, vP])
  refine ⟨tq, _, rfl, SqT.of upd_same, rfl, _, _, rfl, _, _, rfl, rfl, ?_⟩
  have s911 := s10.trans s11
  have DM11 := Dq.mono s911 _ _ DM
  have DP11 := Dq.mono s11 _ _ DP
  generalize upd H10 tq (.tup [vM, vP]) = H11 at s11 s911 DM11 DP11 ⊢
  have w11 := well_same w9 s911
  -- its dict
  refine ⟨_, rfl, vM, ds', 1, rfl, DM11, b', fun t' H12 kvs' s12 ht0' ht12 pr12 => ?_⟩
  have tw' : t' ≠ wl := fun z => by rw [z] at ht0'; exact well_ne w11 ht0'
  have pr12' := paired_imp (R' := TabR K H12) (fun kv p z => ⟨z.1, Dq.mono s12 _ _ z.2⟩) pr12
  -- its weights
  refine ⟨_, rfl, t', kvs', ds', 1, rfl, ht12, pr12', b', fun o' H13 acc' hw' s13 ho0' ho13 hv13 fal13 => ?_⟩
  have w12 := well_same w11 s12
  have ow' : o' ≠ wl := fun z => by rw [z] at ho0'; exact well_ne w12 ho0'
  have s1113 := s12.trans s13
  have s913 := s911.trans s1113
  have w13 := well_same w12 s13
  have M913 : Mn wl H9 H13 := .same s913
  have r13 := r9.mn b0 fe w13 M913
  have T13 := T9.ext s913
  have M13 := M9.trans M913
  have DG13 := Dq.mono s913 _ _ DG
  have q13 : RtF K wl H13 nl t' o' vM vP ns ds' (kmd 30 e h) acc' := ⟨nlw, tw', ow', w13, r13.hN, ⟨kvs', s13 _ _ ht12, paired_imp (fun kv p z => ⟨z.1, Dq.mono s13 _ _ z.2⟩) pr12'⟩, ho13, Dq.mono s1113 _ _ DM11, Dq.mono s1113 _ _ DP11⟩
  have fi' := formIn_of f'
  refine ⟨_, rfl, _, rfl, o', vP, acc', hw', kmd 30 e h, rfl, ho13, hv13, q13.dF, fi'.1, (fun x mx => fal13.names (fi'.2 x mx)), fun H14 s14 => ⟨_, _, rfl, rfl, _, rfl, ?_⟩⟩
  have M1314 : Mn wl H13 H14 := .same s14
  have w14 := well_same w13 s14
  have T14 := T13.ext s14
  have M14 := M13.trans M1314
  refine ite2 (fun c => q H14 w14 T14 M14) (fun c => ?_)
  have c' := of_decide_eq_false (Bool.eq_false_iff.mpr c)
  have r14 := r13.mn b0 fe w14 M1314
  have q14 := q13.mn b' f' w14 M1314
  have DG14 := Dq.mono s14 _ _ DG13
  -- the program's book by the hole
  refine ⟨_, rfl, _, rfl, .ref aL, vG, ds, 0, h, rfl, bookAt_of2 b0 (by decide) r14.dL, b0, by decide, holeAt_of kw hin DG14, kw, T14, fun vB H15 ds2 eN T15 DB by15 => ?_⟩
  obtain rfl := byH_one by15 by9
  have M1415 : Mn wl H14 H15 := .ext eN
  have w15 := Mn.well eN w14
  have r15 := r14.mn b0 fe w15 M1415
  have q15 := q14.mn b' f' w15 M1415
  have DG15 := Dq.ext (M1415.tup w14) _ _ sG DG14
  have M15 := M14.trans M1415
  -- its kind by the hole
  refine ⟨_, rfl, _, rfl, _, rfl, .ref aL, vF, vG, .tuple ds, e, h, rfl, bookAt_of2 b0 (by decide) r15.dL, kindAt_of b0 fe r15.dF, holeAt_of kw hin DG15, ff30, dF60, fun vK H16 s16 DK => ?_⟩
  refine ⟨z3 (by show 2 ≤ 200; decide), fun p1 hp1 => ⟨_, rfl, _, rfl, z3 (by show 2 ≤ 200; decide), fun p2 hp2 => ?_⟩⟩
  have s17 := same_new hp1 (.lst [vB, vK])
  have s18 := same_new hp2 (.lst [vM, vP])
  have s1718 := s17.trans s18
  have s1518 := s16.trans s1718
  obtain ⟨ok1, ok2, ok3⟩ := list_ok2 (by_gd bD kw hin by9) ((form_gd b' f').1.up (Nat.le_refl 0) (by decide : 18300 ≤ 100000) (by decide : 24 ≤ 30))
  refine ⟨p1, p2, _, rfl, .lst (SqL.of (s18 _ _ upd_same)) (.cons (Dq.mono s1518 _ _ DB) (.cons (Dq.mono s1718 _ _ DK) .nil)), .lst (SqL.of upd_same) (.cons (Dq.mono s1518 _ _ q15.dL) (.cons (Dq.mono s1518 _ _ q15.dF) .nil)), ok1, ok2, ok3, ⟨_, rfl, iteF ?_⟩⟩
  generalize upd (upd H16 p1 (.lst [vB, vK])) p2 (.lst [vM, vP]) = H18 at s18 s1718 s1518 ⊢
  have w18 := well_same w15 s1518
  have M1518 : Mn wl H15 H18 := .same s1518
  have q18 := q15.mn b' f' w18 M1518
  have T18 := T15.ext s1518
  have M18 := M15.trans M1518
  -- a value by the hole
  refine ⟨_, rfl, _, rfl, _, rfl, _, rfl, wl, t', o', vP, 25, keepG H18 [t', o'], bkOf (.tuple ds2), acc', hw', kmd 30 e h, rfl, by decide, by decide, q18.stt, keep_tab (bkA_of b') (by simp) q18.tb, (by rw [keep_at (by simp)]; exact q18.ho), hv13, fal13, bkF_of b', fi', keep_dq (st_pl _ sP) q18.dF, by omega, fun vX H19 G19 x g19 DX val => ?_⟩
  have DX := Dq.mono g19.gh _ _ DX
  have vo := valOk_of b' f' val (by decide)
  have w19 := g19.well
  have M1819 : Mn wl H18 H19 := .but g19.but
  have T19 := tabs_but T18 w18 g19.but
  have q19 := q18.mn b' f' w19 M1819
  -- the holes
  refine ⟨z3 (by show 1 ≤ 200; decide), fun pa oa hpa hoa => ?_⟩
  have s20 := same_new hpa (.frz oa (.tup [.str "thing"]))
  have w20 := well_same w19 s20
  have E1 : Dq K (upd H19 pa (.frz oa (.tup [.str "thing"]))) (.ref pa) (hoD .th) := .tup (SqP.of upd_same hoa) (.cons (.str _) .nil)
  generalize upd H19 pa (.frz oa (.tup [.str "thing"])) = H20 at s20 w20 E1 ⊢
  refine ⟨_, rfl, _, rfl, wl, nl, tupsOf H20, ns, rfl, tups_stt w20, s20 _ _ q19.hN, nlw, n1, by omega, fun v2 H21 G21 h2 g21 E2 hh2 => ⟨z3 (by show 2 ≤ 200; decide), fun tr htr => ?_⟩⟩
  have E2 := Dq.mono g21.gh _ _ E2
  have w21 := g21.well
  have M2021 : Mn wl H20 H21 := .but g21.but
  have s22 := same_new htr (.tup [.ref pa, v2])
  have htr22 : upd H21 tr (.tup [.ref pa, v2]) tr = some (.tup [.ref pa, v2]) := upd_same
  generalize upd H21 tr (.tup [.ref pa, v2]) = H22 at s22 htr22 ⊢
  have M2022 := M2021.trans (Mn.same s22)
  have M1922 := (Mn.same s20).trans M2022
  have w22 := well_same w21 s22
  have T22 := (tabs_but (T19.ext s20) w20 g21.but).ext s22
  have q22 := q19.mn b' f' w22 M1922
  obtain ⟨kw2, hin2⟩ := how_in bD hh2
  have E1 := Dq.ext (M2022.tup w20) _ _ (hoD_st (how_ok (h := .th) trivial)) E1
  have E2 := Dq.ext ((Mn.same s22).tup w21) _ _ (hoD_st (how_ok kw2)) E2
  have D22 := Dq.extP (M1922.tup w19) _ _ vo.pl DX
  have M22 := (M18.trans M1819).trans M1922
  refine ⟨tr, rfl, ⟨_, SqT.of htr22⟩, fun D nD => ?_⟩
  refine lc_it (walk_tup (xs := [.ref pa, v2])) (fun i H' => Same H22 H' ∧ H' D = some (.lst ((List.replicate i true).map V.bl))) ⟨same_new nD _, upd_same⟩ (fun i H' _ z => z.1.seqT (SqT.of htr22)) ?_ ?_
  · rintro i y H23 _ hi ⟨s23, hD⟩ ⟨rfl, hy⟩
    refine ⟨rfl, ?_⟩
    simp only [tYes, ↓reduceIte]
    obtain ⟨hk', Ek, kwk, hink⟩ : ∃ hk', Dq K H22 y (hoD hk') ∧ HoW hk' ∧ ∀ y0, hk' = .nm y0 → (lookB (bkOf (.tuple ds)) y0).isSome = true := by
      rcases i with _ | _ | i
      · have e : V.ref pa = y := by simpa using hy
        exact ⟨.th, by rw [← e]; exact E1, trivial, fun y0 z => nomatch z⟩
      · have e : v2 = y := by simpa using hy
        exact ⟨h2, by rw [← e]; exact E2, kw2, hin2⟩
      · simp only [List.length_cons, List.length_nil] at hi
        omega
    have hink' : ∀ y0, hk' = .nm y0 → (lookB (bkOf (.tuple ds2)) y0).isSome = true := fun y0 z => by
      obtain ⟨k0, e0⟩ := Option.isSome_iff_exists.mp (hink y0 z)
      rw [by9.old y0 k0 e0]
      rfl
    refine ⟨_, rfl, _, rfl, _, rfl, _, rfl, _, rfl, vM, vP, y, vX, t', .tuple ds2, kmd 30 e h, x, hk', 25, rfl, bookAt_of2 b' (by decide) (Dq.mono s23 _ _ q22.dL), kindAt_of b' f' (Dq.mono s23 _ _ q22.dF), holeAt_of kwk hink' (Dq.mono s23 _ _ Ek), Dq.mono s23 _ _ D22, vo, q22.tb.on s23, by decide, fun H24 s24 => ⟨_, s24 _ _ hD, ?_, fun b o e => by rw [upd_ne (ne_of_none e nD)]; exact s24 _ _ (s23 _ _ e), ?_⟩⟩
    · rw [List.length_map, List.length_replicate]
      simp only [List.length_cons, List.length_nil] at hi
      exact z4 (by omega)
    · rw [upd_same, List.replicate_succ', List.map_append]
      rfl
  · rintro H23 ⟨s23, hD⟩
    refine ⟨D, [true, true], rfl, SqL.of hD, ?_⟩
    exact q H23 (well_same w22 s23) (T22.ext s23) (M22.trans (Mn.same s23))
end
end Toy
set_option Elab.async false
set_option linter.all false
set_option maxRecDepth 100000
set_option maxHeartbeats 4000000
namespace Toy
open PySem L2 PyProof.Rows
section
variable {P : Program} {w : World} {K : PySem.W.Frag} {mg : Str → Option Value} {base : Heap}
theorem no_da {vs : List V} {H : Hp} {Q : VK} {E : XK} (h : spDa K 0 vs H Q E) : False := by
  obtain ⟨wl, t, hv, v, n, G, bk, acc, hw, d, _, nN, _, _, _, _, _, fal, _, fi, _, wle, _⟩ := h
  have := fal.pos fi
  omega
theorem none_da {f : Addr} {fd : FuncData} {k : Nat} : FnOk P w K mg base CX0 k f fd ["spring", "of", "heavy", "form", "left"] (spDa K 0) := ⟨fun _ _ _ _ h => (no_da h).elim, fun _ _ _ _ _ _ _ _ _ _ _ _ _ h => (no_da h).elim⟩
theorem datums {f gD gN gW : Addr} {fd dD dN dW : FuncData} (F : Fun K "_law_datum" "_law_datum" sDa f fd) (bF : Binds K fd ["spring", "of", "heavy", "form", "left"] []) (mF : mg "_law_datum" = some (.ref f)) (D : Gv P w K mg base 1 "_law_draw" gD dD ["spring", "top"] spDraw) (NU : Gv P w K mg base 3 "_law_number" gN dN ["spring"] spNu) (WT : Gv P w K mg base 25 "_law_weight" gW dW ["heavy", "form"] (spWt K 24)) : ∀ n : Nat, Gv P w K mg base (25 + n) "_law_datum" f fd ["spring", "of", "heavy", "form", "left"] (spDa K n)
  | 0 => ⟨none_da, bF, F.kp, mF⟩
  | n + 1 => ⟨ok_datum (k := 25 + n) (by omega) F D NU WT (datums F bF mF D NU WT n), bF, F.kp, mF⟩
theorem no_ro {vs : List V} {H : Hp} {Q : VK} {E : XK} (h : spRo K 0 vs H Q E) : False := by
  obtain ⟨t, u, x, v, bk, n, k, d, h, _, _, _, _, _, _, _, _, _, val, nN, _⟩ := h
  have := val.pos
  omega
theorem none_ro {f : Addr} {fd : FuncData} {k : Nat} : FnOk P w K mg base CX0 k f fd ["of", "form", "gap", "datum"] (spRo K 0) := ⟨fun _ _ _ _ h => (no_ro h).elim, fun _ _ _ _ _ _ _ _ _ _ _ _ _ h => (no_ro h).elim⟩
theorem roadsF {f gS : Addr} {fd dS : FuncData} (F : Fun K "_law_roads" "_law_roads" sRo f fd) (bF : Binds K fd ["of", "form", "gap", "datum"] []) (mF : mg "_law_roads" = some (.ref f)) (SD : Gv P w K mg base 1 "_law_side" gS dS ["datum"] (spSd K)) : ∀ n : Nat, Gv P w K mg base (2 + n) "_law_roads" f fd ["of", "form", "gap", "datum"] (spRo K n)
  | 0 => ⟨none_ro, bF, F.kp, mF⟩
  | n + 1 => ⟨ok_roads (k := 2 + n) (by omega) F SD (roadsF F bF mF SD n), bF, F.kp, mF⟩
end
end Toy
set_option Elab.async false
set_option linter.all false
set_option maxRecDepth 100000
set_option maxHeartbeats 4000000
namespace Toy
open PySem L2 LamX
abbrev sLaw : Stmt := top 83
def spLaw (K : PySem.W.Frag) (PT : Addr) : Sp := fun vs H Q _ => ∃ (a : Addr) (ns : List Int), vs = [.ref a] ∧ Tabs (lamT PT) H ∧ SqL K H a (ns.map V.int) ∧ ns.length ≤ 63 ∧ ∀ H', Q (.bl true) H'
structure Nl (mg : Str → Option Value) : Prop where
  max : mg "max" = none
  min : mg "min" = none
theorem extN_seq {K : PySem.W.Frag} {H H' : Hp} {a : Addr} {xs : List V} (e : ExtN H H') (h : SqL K H a xs) : SqL K H' a xs := by
  rcases h with (h | ⟨o, h⟩) | h
  · exact .inl (.inl (e _ _ h (fun ps z => by cases z)))
  · exact .inl (.inr ⟨o, e _ _ h (fun ps z => by cases z)⟩)
  · exact .inr h
section
variable {P : Program} {w : World} {K : PySem.W.Frag} {mg : Str → Option Value} {base : Heap}
theorem scL : FnScope ["script", "lap"] ["script"] (defScope sLaw) := ⟨rfl, rfl, rfl, by decide +kernel, rfl, by decide +kernel, by decide +kernel⟩
theorem ok_law {f PT fW fR : Addr} {fd dW dR : FuncData} (F : Fun K "law" "law" sLaw f fd) (N : Nm mg) (B : Nr mg) (L : Nl mg) (WL : Gv P w K mg base 1 "_law_spring" fW dW ["script", "lap"] (spWell K)) (RG : GvZ (RoomG 128) P w K mg base "_law_right" fR dR ["spring"] (spRi PT)) :
    FnZ (RoomG 129) P w K mg base f fd ["script"] (spLaw K PT) := by
  refine F.okZ true scL (fun A z => z.depth) (fun _ A z => z.room.hd) (fun vs H Q E h => ?_) (fun cdv A outer s H vs Q hz0 h => ?_)
  · obtain ⟨a, ns, rfl, _⟩ := h
    rfl
  obtain ⟨a, ns, rfl, T0, hS, h63, q⟩ := h
  have hz : ∀ env, RoomG 128 (A.deeper env) := fun env => hz0.deeper env
  refine ⟨_, (pss_cons (ps_for PassesOwn.never rfl (pi_range1 (by rfl) B.range (pa_cons (pe_callB (call_max2 rfl) rfl L.max (by decide +kernel) (pa_cons pe_int (pa_cons (pe_callB (call_min2 rfl) rfl L.min (by decide +kernel) (pa_cons (pe_callB call_len_seq rfl N.len PySem.boot_len (pa_cons (pv 0) pa_nil)) (pa_cons pe_int pa_nil))) pa_nil))) pa_nil)) (pg_name (i := 1) scL.nd rfl (.inl rfl)) (pss_one (ps_if (pt_not (pt_val (pe_callZD RG.ok (hz _) rfl RG.m RG.k RG.b (pa_cons (pe_call WL.ok ((hz _).room.mono (by omega)) rfl WL.m WL.k WL.b .nil pass0 (pa_cons (pv 0) (pa_cons (pv 1) pa_nil))) pa_nil)))) (pss_one (ps_ret pe_bl)) pss_nil)))
    (pss_one (ps_ret pe_bl))), ?_⟩
  refine ⟨_, rfl, a, _, rfl, .inl hS, _, _, rfl, _, _, rfl, ?_⟩
  have hm : ∃ m : Nat, m ≤ 3 ∧ (if (if (3 : Int) < ((ns.map V.int).length : Nat) then (3 : Int) else ((ns.map V.int).length : Nat)) > 1 then (if (3 : Int) < ((ns.map V.int).length : Nat) then (3 : Int) else ((ns.map V.int).length : Nat)) else 1) = (m : Int) := by
    generalize ((ns.map V.int).length : Nat) = l
    refine ⟨(if (if (3 : Int) < (l : Nat) then (3 : Int) else (l : Nat)) > 1 then (if (3 : Int) < (l : Nat) then (3 : Int) else (l : Nat)) else 1).toNat, ?_, ?_⟩
    · split <;> (try split) <;> omega
    · split <;> (try split) <;> omega
  obtain ⟨m, h2, em⟩ := hm
  refine ⟨m, by rw [em], by omega, by omega, ?_⟩
  rw [Int.toNat_natCast]
  refine for_range (lo := 0) (n := m) (fun i σ H' => ∃ c, σ = [some (.ref a), c] ∧ ExtN H H' ∧ Tabs (lamT PT) H') ⟨none, rfl, ExtN.refl H, T0⟩ ?_ ?_
  · rintro i σ H2 hi ⟨c, rfl, e2, T2⟩
    refine ⟨_, rfl, _, rfl, a, ns, 0 + (i : Int), rfl, extN_seq e2 hS, h63, by omega, by omega, fun p H3 s3 hp hw => ⟨p, rfl, hw, T2.ext s3, fun H4 w4 T4 M4 => ⟨_, rfl, iteF ⟨_, rfl, fun b o z t => ?_, T4⟩⟩⟩⟩
    have z2 := e2 b o z t
    exact M4 b o (ne_of_none z2 hp) (s3 _ _ z2) t
  · rintro σ H2 ⟨c, rfl, e2, T2⟩
    exact q H2
end
end Toy
namespace Toy
open PySem PySem.W PySem.ErrX L2 LamX PyProof.Rows PySem.Spec PySem.Calls
/-! ### what the top has left -/
structure One (main : Module) (K : PySem.W.Frag) (x : Str) (C : Addr) (f : Str) : Prop where
  a : nsIn K mainGlobals x = some (some (.ref C))
  t : ∃ fI pa pb txt p, ErrTxt main K C fI (ps1 f pa pb) (bd1 f txt p) ∧ SupEq txt (p 0) (p 1) (p 2) (p 3) (p 4)
  n : findIn K (.ref C) f = some none
section
variable {main : Module} {K : PySem.W.Frag} {x f g txt : Str} {C fI N : Addr} {pa pb pc : Pos} {p : Nat → Pos} {nm q : Str} {bs bm : List Value} {sn : List Str} {sub : List Value} {ab : Bool} {col : Option Bool} {dd : Option Addr} {k0 k1 k2 k3 k5 : Option Value}
  {oc cl ccl : Value} {od cld cdd : Option Addr} {doc pm : Value} {an : Option Addr} {ct : Value} {osl csl ccs : Array (Option Value)} {cc cda : Addr} {qual : Str} {vs : Array Value} {file : Str} {tf : Tok}
theorem one_mk (a : nsIn K mainGlobals x = some (some (.ref C))) (xL : K.lookup C = some (excClassObj nm q C N bs bm true sn sub ab col dd k0 k1 k2 k3 k5 "ValueError.__new__")) (hb : PySem.HandSPX.refsVE bm = true)
    (sa : findIn K (.ref C) "__setattr__" = some (some (.builtin "object.__setattr__"))) (iC : findIn K (.ref C) "__init__" = some (some (.ref fI))) (tC : typeIn K (.ref fI) = some (.type "function")) (kC : keepIn K (.ref C) = true)
    (sb : mroIn K C (.ref C) = some true) (sV : subIn K (.ref C) (.type "ValueError") = some true) (su : ks_superIn K C C "__init__" = some (some (.builtin "ValueError.__init__"))) (tp : nsIn K cStatics "thirdparty.any" = some none) (sp : nsIn K mainGlobals "super" = some none)
    (l1 : K.lookup fI = some ⟨oc, od, .func (ksFn "__init__" qual (eA (ps1 f pa pb)) (bd1 f txt p) (eScope (pN (ps1 f pa pb))) .none .none doc pm an (.ref cda) ct cc), osl⟩) (c1 : codeIn K (.ref cda) qual = true)
    (l2 : K.lookup cc = some ⟨cl, cld, .cell (some (.ref C)), csl⟩) (l3 : K.lookup cda = some ⟨ccl, cdd, .fields vs, ccs⟩) (n : findIn K (.ref C) f = some none) (v2 : vs[2]? = some (.str file tf)) (mf : ((main.file : Str) == file) = true)
    (top : (main.scope.names.lookup ("super" : Str)).isSome = false) (se : SupEq txt (p 0) (p 1) (p 2) (p 3) (p 4)) : One main K x C f :=
  ⟨a, ⟨fI, pa, pb, txt, p, ⟨⟨nm, q, N, bs, bm, sn, sub, ab, col, dd, k0, k1, k2, k3, k5, xL, hb⟩, sa, iC, tC, kC, sb, sV, su, tp, sp, top, ⟨oc, cl, ccl, od, cld, cdd, doc, pm, an, ct, osl, csl, ccs, cc, cda, qual, vs, file, tf, l1, c1, l2, l3, v2, mf⟩⟩, se⟩, n⟩
end
theorem One.mk1 {P : Program} {w : World} {K : PySem.W.Frag} {mg : Str → Option Value} {base : Heap} {x : Str} {C : Addr} {f : Str} (O : One P.main K x C f) (FO : FldOk f) : Mkr P w K mg base C 1 [] (fun vs => match vs with | [x] => [(f, x)] | _ => []) := by
  obtain ⟨fI, pa, pb, txt, p, T, se⟩ := O.t
  exact mkr1 T FO O.n se
/-- a tuple of one text at the top -/
theorem top_one {K : PySem.W.Frag} {a : Addr} {x : Str} {t : Tok} {n : Nat} {sl : Array (Option Value)} (l : K.lookup a = some ⟨.type "tuple", none, .seq #[.str x t] n, sl⟩) (H : Hp) : Dq K H (.ref a) (.tuple [.str x]) :=
  .tup (.inr ⟨_, #[.str x t], n, l, rfl, rfl, rfl, by show 1 ≤ sizeLine; decide, .cons (show RelV (.str x) (.str x t) from ⟨t, rfl⟩) .nil⟩) (.cons (.str x) .nil)
structure DefK (K : PySem.W.Frag) (x : Str) (st : Stmt) (f : Addr) (fd : FuncData) : Prop where
  a : nsIn K mainGlobals x = some (some (.ref f))
  F : Fun K x x st f fd
theorem def_mk {K : PySem.W.Frag} {x : Str} {st : Stmt} {f : Addr} {od an : Option Addr} {sl : Array (Option Value)} {oc kV dc pm cd ct : Value} (a : nsIn K mainGlobals x = some (some (.ref f)))
    (l : K.lookup f = some ⟨oc, od, .func (fnOf x x (defArgs st) (defBody st) (defScope st) .none kV dc pm an cd ct), sl⟩) (c : codeIn K cd x = true) (k : keepIn K (.ref f) = true) : DefK K x st f (fnOf x x (defArgs st) (defBody st) (defScope st) .none kV dc pm an cd ct) := ⟨a, fun_mk l c k⟩
theorem fnOk_ex {P : Program} {w : World} {K : PySem.W.Frag} {mg : Str → Option Value} {base : Heap} {CX : CXT} {k m : Nat} {f : Addr} {fd : FuncData} {ps : List Str} {sp : Nat → Sp} (F : ∀ n, n ≤ m → FnOk P w K mg base CX k f fd ps (sp n)) : FnOk P w K mg base CX k f fd ps (fun vs H Q E => ∃ n, n ≤ m ∧ sp n vs H Q E) :=
  ⟨fun vs H Q E ⟨n, h, z⟩ => (F n h).len vs H Q E z, fun A outer s H args us vs Q E hr he hb hv ⟨n, h, z⟩ => (F n h).run A outer s H args us vs Q E hr he hb hv z⟩
structure DefC (K : PySem.W.Frag) (x : Str) (st : Stmt) (f : Addr) (fd : FuncData) (c : Addr) : Prop where
  a : nsIn K mainGlobals x = some (some (.ref f))
  F : FunC K x x st f fd c
theorem defc_mk {K : PySem.W.Frag} {x : Str} {st : Stmt} {f c : Addr} {od an : Option Addr} {sl : Array (Option Value)} {oc kV dc pm ct : Value} (a : nsIn K mainGlobals x = some (some (.ref f)))
    (l : K.lookup f = some ⟨oc, od, .func (fnOf x x (defArgs st) (defBody st) (defScope st) .none kV dc pm an (.ref c) ct), sl⟩) (cc : codeIn K (.ref c) x = true) (k : keepIn K (.ref f) = true) : DefC K x st f (fnOf x x (defArgs st) (defBody st) (defScope st) .none kV dc pm an (.ref c) ct) c := ⟨a, ⟨⟨_, _, _, _, _, _, _, _, rfl, l, cc⟩, k⟩⟩
def names0 : List Str := ["int", "len", "abs", "divmod", "repr", "all", "type", "str", "isinstance", "tuple", "max", "sorted", "range", "bool", "list", "min", "enumerate", "dict", "sum"]
def noneB (K : PySem.W.Frag) : Bool := names0.all fun x => decide (nsIn K mainGlobals x = some none)
section
variable {P : Program} {w : World} {K : PySem.W.Frag} {h : Heap} {mg : Str → Option Value} {fa : Addr}
theorem all_mk {fL aC aTh aNo aUn aBkB cB PT : Addr} {dBkB : FuncData} {aInm aIwr aIki aNam aFou aAmo aNmM aMaO aKiM aTaM aHoM aPaM aTab aChP aPAb aByR aChK aIKn aKnH aTaF aTaH aChH aKiB aWell aDraw aPick aSame aName aForm aOwnF aLib aGap aNaBy aBy aLiBy aIVa aWhN aEmp aHKi aUnf aPwi aROf aMet aBel aKSi aPto aChV aSpo aOfL aWei aHea aNum aDat aSoF aSid aRoa aIsF aRigh : Addr} {dInm dIwr dIki dNam dFou dAmo dNmM dMaO dKiM dTaM dHoM dPaM dTab dChP dPAb dByR dChK dIKn dKnH dTaF dTaH dChH dKiB dWell dDraw dPick dSame dName dForm dOwnF dLib dGap dNaBy dBy dLiBy dIVa dWhN dEmp dHKi dUnf dPwi dROf dMet dBel dKSi dPto dChV dSpo dOfL dWei dHea dNum dDat dSoF dSid dRoa dIsF dRigh : FuncData} {od an : Option Addr} {sl slT slN slU : Array (Option Value)} {oc kV dc pm cd ct : Value} {t1 t2 t3 t4 t5 t6 t7 tT tN tU : Tok} {nT nN nU : Nat} (X : K.In h) (G : h.Ns mainGlobals mg) (hfa : mg "law" = some (.ref fa))
    (DBkB : DefC K "book_by" sBookBy aBkB dBkB cB)
    (DInm : DefK K "is_name" sIsName aInm dInm)
    (DIwr : DefK K "is_written" sIsWr aIwr dIwr)
    (DIki : DefK K "is_kind" sIsKind aIki dIki)
    (DNam : DefK K "names_among" sNmAm aNam dNam)
    (DFou : DefK K "parts_found" sFound aFou dFou)
    (DAmo : DefK K "kinds_among" sAmong aAmo dAmo)
    (DNmM : DefK K "name_made" sNmMd aNmM dNmM)
    (DMaO : DefK K "made_of" sMadeOf aMaO dMaO)
    (DKiM : DefK K "kind_made" sKinM aKiM dKiM)
    (DTaM : DefK K "table_made" sTabMade aTaM dTaM)
    (DHoM : DefK K "hole_made" sHolM aHoM dHoM)
    (DPaM : DefK K "pair_made" sPaiM aPaM dPaM)
    (DTab : DefK K "table_of" sTable aTab dTab)
    (DChP : DefK K "check_pairs" sChkP aChP dChP)
    (DPAb : DefK K "is_pair_above" sPairAb aPAb dPAb)
    (DByR : DefK K "is_made_by_rules" sByRules aByR dByR)
    (DChK : DefK K "check_kind" sChkK aChK dChK)
    (DIKn : DefK K "is_known" sIsKnown aIKn dIKn)
    (DKnH : DefK K "is_known_hole" sKnHole aKnH dKnH)
    (DTaF : DefK K "table_for" sTabFor aTaF dTaF)
    (DTaH : DefK K "table_for_hole" sTabHo aTaH dTaH)
    (DChH : DefK K "check_hole" sChkH aChH dChH)
    (DKiB : DefK K "kind_by" sKindBy aKiB dKiB)
    (DWell : DefK K "_law_spring" sWell aWell dWell)
    (DDraw : DefK K "_law_draw" sDraw aDraw dDraw)
    (DPick : DefK K "_law_pick" sPick aPick dPick)
    (DSame : DefK K "_law_is" sSame aSame dSame)
    (DName : DefK K "_law_name" sName aName dName)
    (DForm : DefK K "_law_form" sForm aForm dForm)
    (DOwnF : DefK K "_law_own_form" sOwn aOwnF dOwnF)
    (DLib : DefK K "_law_lib" sLib aLib dLib)
    (DGap : DefK K "_law_gap" sGap aGap dGap)
    (DNaBy : DefK K "_law_name_by" sNameBy aNaBy dNaBy)
    (DBy : DefK K "_law_by" sBy aBy dBy)
    (DLiBy : DefK K "_law_lib_by" sLibBy aLiBy dLiBy)
    (DIVa : DefK K "is_value" sIv aIVa dIVa)
    (DWhN : DefK K "is_whole_number" sWhN aWhN dWhN)
    (DEmp : DefK K "is_empty" sEmp aEmp dEmp)
    (DHKi : DefK K "has_kind" sHk aHKi dHKi)
    (DUnf : DefK K "unfolded" sUnf aUnf dUnf)
    (DPwi : DefK K "parts_within" sPwi aPwi dPwi)
    (DROf : DefK K "is_row_of" sRowOf aROf dROf)
    (DMet : DefK K "parts_met" sMet aMet dMet)
    (DBel : DefK K "parts_below" sBel aBel dBel)
    (DKSi : DefK K "kind_on_side" sKs aKSi dKSi)
    (DPto : DefK K "paths_to" sPto aPto dPto)
    (DChV : DefK K "check_value" sCv aChV dChV)
    (DSpo : DefK K "spots" sSpt aSpo dSpo)
    (DOfL : DefK K "_law_of" sOfL aOfL dOfL)
    (DWei : DefK K "_law_weight" sWt aWei dWei)
    (DHea : DefK K "_law_heavy" sHv aHea dHea)
    (DNum : DefK K "_law_number" sNu aNum dNum)
    (DDat : DefK K "_law_datum" sDa aDat dDat)
    (DSoF : DefK K "_law_some_form" sSf aSoF dSoF)
    (DSid : DefK K "_law_side" sSd aSid dSid)
    (DRoa : DefK K "_law_roads" sRo aRoa dRoa)
    (DIsF : DefK K "_law_is_found" sFd aIsF dIsF)
    (DRigh : DefK K "_law_right" sRight aRigh dRigh)
    (C1 : nsIn K mainGlobals "CAPITALS" = some (some (.str "ABCDEFGHIJKLMNOPQRSTUVWXYZ" t1))) (C2 : nsIn K mainGlobals "SMALL" = some (some (.str "abcdefghijklmnopqrstuvwxyz0123456789" t2))) (C3 : nsIn K mainGlobals "LONGEST_WRITTEN" = some (some (.int 8 t3))) (C4 : nsIn K mainGlobals "LONGEST_NAME" = some (some (.int 60 t4)))
    (C5 : nsIn K mainGlobals "DEEPEST" = some (some (.int 30 t5))) (C6 : nsIn K mainGlobals "MOST_PARTS" = some (some (.int 2000 t6))) (C7 : nsIn K mainGlobals "MOST_NAMES" = some (some (.int 80 t7)))
    (hT : nsIn K mainGlobals "THING" = some (some (.ref aTh))) (lT : K.lookup aTh = some ⟨.type "tuple", none, .seq #[.str "thing" tT] nT, slT⟩) (hN : nsIn K mainGlobals "NONE" = some (some (.ref aNo))) (lN : K.lookup aNo = some ⟨.type "tuple", none, .seq #[.str "none" tN] nN, slN⟩)
    (hU : nsIn K mainGlobals "UNIT" = some (some (.ref aUn))) (lU : K.lookup aUn = some ⟨.type "tuple", none, .seq #[.str "unit" tU] nU, slU⟩)
    (E1 : One P.main K "InvalidBook" aC "index") (cb : subIn K (.ref aC) (.type "BaseException") = some true) (ct' : typeIn K (.ref aC) = some (.type "type")) (ck : keepIn K (.ref aC) = true) (cx : exmOne K (.ref aC) (.ref aC) = some true)
    (aL : nsIn K mainGlobals "law" = some (some (.ref fL))) (lL : K.lookup fL = some ⟨oc, od, .func (fnOf "law" "law" (defArgs sLaw) (defBody sLaw) (defScope sLaw) .none kV dc pm an cd ct), sl⟩) (cL : codeIn K cd "law" = true) (kL : keepIn K (.ref fL) = true) (b0 : noneB K = true) (cH : codeHdIn K cB PT = true) :
    ∃ (cB : Addr) (fd : FuncData), CodeHd h cB PT ∧ (∀ (s : Shared) (u : Value), BindsTo s fd ⟨[u], []⟩ [("script", u)]) ∧ ∀ base : Heap, K.In base → base.Ns mainGlobals mg → TabB base mg cB PT → FnZ (RoomG 129) P w K mg base fa fd ["script"] (spLaw K PT) := by
  have e := hfa.symm.trans (mg_of X G aL)
  cases e
  have no : ∀ x, x ∈ names0 → mg x = none := fun x hx => mg_none_of X G (of_decide_eq_true (List.all_eq_true.mp b0 x hx))
  have N : Nm mg := ⟨no _ (by simp [names0]), no _ (by simp [names0]), no _ (by simp [names0]), no _ (by simp [names0]), no _ (by simp [names0])⟩
  have T : Nk mg := ⟨⟨t1, mg_of X G C1⟩, ⟨t2, mg_of X G C2⟩, ⟨t3, mg_of X G C3⟩, ⟨t4, mg_of X G C4⟩, no _ (by simp [names0]), no _ (by simp [names0])⟩
  have U : Nt mg := ⟨no _ (by simp [names0]), no _ (by simp [names0]), no _ (by simp [names0])⟩
  have Tu : Nu mg := ⟨no _ (by simp [names0])⟩
  have Pp : Np mg := ⟨⟨t5, mg_of X G C5⟩, ⟨t6, mg_of X G C6⟩⟩
  have Mx : Nx mg := ⟨no _ (by simp [names0])⟩
  have R : Nr mg := ⟨no _ (by simp [names0])⟩
  have L : Nl mg := ⟨no _ (by simp [names0]), no _ (by simp [names0])⟩
  have V' : Nv mg := ⟨⟨t7, mg_of X G C7⟩, no _ (by simp [names0]), no _ (by simp [names0])⟩
  have NC : Nc K mg := ⟨⟨aTh, mg_of X G hT, top_one lT⟩, ⟨aNo, mg_of X G hN, top_one lN⟩, ⟨aUn, mg_of X G hU, top_one lU⟩⟩
  have TU : mg "tuple" = none := no _ (by simp [names0])
  have SG : mg "sorted" = none := no _ (by simp [names0])
  have DI : mg "dict" = none := no _ (by simp [names0])
  have LI : mg "list" = none := no _ (by simp [names0])
  have SU : mg "sum" = none := no _ (by simp [names0])
  have MI : mg "min" = none := no _ (by simp [names0])
  have INT : mg "int" = none := no _ (by simp [names0])
  have AL : mg "all" = none := no _ (by simp [names0])
  have bInm : Binds K dInm ["value"] [] := DInm.F.binds (ps := ["value"]) fun _ _ _ _ _ _ us hl => match us, hl with | [_], _ => rfl
  have bIwr : Binds K dIwr ["text"] [] := DIwr.F.binds (ps := ["text"]) fun _ _ _ _ _ _ us hl => match us, hl with | [_], _ => rfl
  have bIki : Binds K dIki ["value"] [] := DIki.F.binds (ps := ["value"]) fun _ _ _ _ _ _ us hl => match us, hl with | [_], _ => rfl
  have bNam : Binds K dNam ["parts"] [] := DNam.F.binds (ps := ["parts"]) fun _ _ _ _ _ _ us hl => match us, hl with | [_], _ => rfl
  have bFou : Binds K dFou ["value"] [] := DFou.F.binds (ps := ["value"]) fun _ _ _ _ _ _ us hl => match us, hl with | [_], _ => rfl
  have bAmo : Binds K dAmo ["part"] [] := DAmo.F.binds (ps := ["part"]) fun _ _ _ _ _ _ us hl => match us, hl with | [_], _ => rfl
  have bNmM : Binds K dNmM ["name", "hole"] [] := DNmM.F.binds (ps := ["name", "hole"]) fun _ _ _ _ _ _ us hl => match us, hl with | [_, _], _ => rfl
  have bMaO : Binds K dMaO ["name"] [] := DMaO.F.binds (ps := ["name"]) fun _ _ _ _ _ _ us hl => match us, hl with | [_], _ => rfl
  have bKiM : Binds K dKiM ["kind", "hole"] [] := DKiM.F.binds (ps := ["kind", "hole"]) fun _ _ _ _ _ _ us hl => match us, hl with | [_, _], _ => rfl
  have bTaM : Binds K dTaM ["table", "hole"] [] := DTaM.F.binds (ps := ["table", "hole"]) fun _ _ _ _ _ _ us hl => match us, hl with | [_, _], _ => rfl
  have bHoM : Binds K dHoM ["hole"] [] := DHoM.F.binds (ps := ["hole"]) fun _ _ _ _ _ _ us hl => match us, hl with | [_], _ => rfl
  have bPaM : Binds K dPaM ["first", "second", "hole"] [] := DPaM.F.binds (ps := ["first", "second", "hole"]) fun _ _ _ _ _ _ us hl => match us, hl with | [_, _, _], _ => rfl
  have bTab : Binds K dTab ["book"] [] := DTab.F.binds (ps := ["book"]) fun _ _ _ _ _ _ us hl => match us, hl with | [_], _ => rfl
  have bChP : Binds K dChP ["book"] [] := DChP.F.binds (ps := ["book"]) fun _ _ _ _ _ _ us hl => match us, hl with | [_], _ => rfl
  have bPAb : Binds K dPAb ["ahead", "row"] [] := DPAb.F.binds (ps := ["ahead", "row"]) fun _ _ _ _ _ _ us hl => match us, hl with | [_, _], _ => rfl
  have bByR : Binds K dByR ["table", "name"] [] := DByR.F.binds (ps := ["table", "name"]) fun _ _ _ _ _ _ us hl => match us, hl with | [_, _], _ => rfl
  have bChK : Binds K dChK ["table", "kind"] [] := DChK.F.binds (ps := ["table", "kind"]) fun _ _ _ _ _ _ us hl => match us, hl with | [_, _], _ => rfl
  have bIKn : Binds K dIKn ["table", "value"] [] := DIKn.F.binds (ps := ["table", "value"]) fun _ _ _ _ _ _ us hl => match us, hl with | [_, _], _ => rfl
  have bKnH : Binds K dKnH ["table", "value"] [] := DKnH.F.binds (ps := ["table", "value"]) fun _ _ _ _ _ _ us hl => match us, hl with | [_, _], _ => rfl
  have bTaF : Binds K dTaF ["book", "kind"] [] := DTaF.F.binds (ps := ["book", "kind"]) fun _ _ _ _ _ _ us hl => match us, hl with | [_, _], _ => rfl
  have bTaH : Binds K dTaH ["book", "kind", "hole"] [] := DTaH.F.binds (ps := ["book", "kind", "hole"]) fun _ _ _ _ _ _ us hl => match us, hl with | [_, _, _], _ => rfl
  have bChH : Binds K dChH ["table", "hole"] [] := DChH.F.binds (ps := ["table", "hole"]) fun _ _ _ _ _ _ us hl => match us, hl with | [_, _], _ => rfl
  have bKiB : Binds K dKiB ["book", "kind", "hole"] [] := DKiB.F.binds (ps := ["book", "kind", "hole"]) fun _ _ _ _ _ _ us hl => match us, hl with | [_, _, _], _ => rfl
  have bWell : Binds K dWell ["script", "lap"] [] := DWell.F.binds (ps := ["script", "lap"]) fun _ _ _ _ _ _ us hl => match us, hl with | [_, _], _ => rfl
  have bDraw : Binds K dDraw ["spring", "top"] [] := DDraw.F.binds (ps := ["spring", "top"]) fun _ _ _ _ _ _ us hl => match us, hl with | [_, _], _ => rfl
  have bPick : Binds K dPick ["spring", "some"] [] := DPick.F.binds (ps := ["spring", "some"]) fun _ _ _ _ _ _ us hl => match us, hl with | [_, _], _ => rfl
  have bSame : Binds K dSame ["gave", "due"] [] := DSame.F.binds (ps := ["gave", "due"]) fun _ _ _ _ _ _ us hl => match us, hl with | [_, _], _ => rfl
  have bName : Binds K dName ["spring", "taken"] [] := DName.F.binds (ps := ["spring", "taken"]) fun _ _ _ _ _ _ us hl => match us, hl with | [_, _], _ => rfl
  have bForm : Binds K dForm ["spring", "names", "left"] [] := DForm.F.binds (ps := ["spring", "names", "left"]) fun _ _ _ _ _ _ us hl => match us, hl with | [_, _, _], _ => rfl
  have bOwnF : Binds K dOwnF ["spring", "names", "name", "left"] [] := DOwnF.F.binds (ps := ["spring", "names", "name", "left"]) fun _ _ _ _ _ _ us hl => match us, hl with | [_, _, _, _], _ => rfl
  have bLib : Binds K dLib ["spring", "left"] [] := DLib.F.binds (ps := ["spring", "left"]) fun _ _ _ _ _ _ us hl => match us, hl with | [_, _], _ => rfl
  have bGap : Binds K dGap ["spring", "names"] [] := DGap.F.binds (ps := ["spring", "names"]) fun _ _ _ _ _ _ us hl => match us, hl with | [_, _], _ => rfl
  have bNaBy : Binds K dNaBy ["name", "gap"] [] := DNaBy.F.binds (ps := ["name", "gap"]) fun _ _ _ _ _ _ us hl => match us, hl with | [_, _], _ => rfl
  have bBy : Binds K dBy ["form", "gap"] [] := DBy.F.binds (ps := ["form", "gap"]) fun _ _ _ _ _ _ us hl => match us, hl with | [_, _], _ => rfl
  have bLiBy : Binds K dLiBy ["lib", "gap"] [] := DLiBy.F.binds (ps := ["lib", "gap"]) fun _ _ _ _ _ _ us hl => match us, hl with | [_, _], _ => rfl
  have bIVa : Binds K dIVa ["book", "kind", "value"] [] := DIVa.F.binds (ps := ["book", "kind", "value"]) fun _ _ _ _ _ _ us hl => match us, hl with | [_, _, _], _ => rfl
  have bWhN : Binds K dWhN ["value"] [] := DWhN.F.binds (ps := ["value"]) fun _ _ _ _ _ _ us hl => match us, hl with | [_], _ => rfl
  have bEmp : Binds K dEmp ["value"] [] := DEmp.F.binds (ps := ["value"]) fun _ _ _ _ _ _ us hl => match us, hl with | [_], _ => rfl
  have bHKi : Binds K dHKi ["table", "kind", "value", "is_thing"] [] := DHKi.F.binds (ps := ["table", "kind", "value", "is_thing"]) fun _ _ _ _ _ _ us hl => match us, hl with | [_, _, _, _], _ => rfl
  have bUnf : Binds K dUnf ["table", "kind"] [] := DUnf.F.binds (ps := ["table", "kind"]) fun _ _ _ _ _ _ us hl => match us, hl with | [_, _], _ => rfl
  have bPwi : Binds K dPwi ["kind", "value", "is_thing"] [] := DPwi.F.binds (ps := ["kind", "value", "is_thing"]) fun _ _ _ _ _ _ us hl => match us, hl with | [_, _, _], _ => rfl
  have bROf : Binds K dROf ["word", "many", "row"] [] := DROf.F.binds (ps := ["word", "many", "row"]) fun _ _ _ _ _ _ us hl => match us, hl with | [_, _, _], _ => rfl
  have bMet : Binds K dMet ["table", "kind", "value"] [] := DMet.F.binds (ps := ["table", "kind", "value"]) fun _ _ _ _ _ _ us hl => match us, hl with | [_, _, _], _ => rfl
  have bBel : Binds K dBel ["table", "kind", "value", "path"] [] := DBel.F.binds (ps := ["table", "kind", "value", "path"]) fun _ _ _ _ _ _ us hl => match us, hl with | [_, _, _, _], _ => rfl
  have bKSi : Binds K dKSi ["kind", "side"] [] := DKSi.F.binds (ps := ["kind", "side"]) fun _ _ _ _ _ _ us hl => match us, hl with | [_, _], _ => rfl
  have bPto : Binds K dPto ["table", "kind", "hole", "value"] [] := DPto.F.binds (ps := ["table", "kind", "hole", "value"]) fun _ _ _ _ _ _ us hl => match us, hl with | [_, _, _, _], _ => rfl
  have bChV : Binds K dChV ["table", "kind", "value"] [] := DChV.F.binds (ps := ["table", "kind", "value"]) fun _ _ _ _ _ _ us hl => match us, hl with | [_, _, _], _ => rfl
  have bSpo : Binds K dSpo ["book", "kind", "hole", "value"] [] := DSpo.F.binds (ps := ["book", "kind", "hole", "value"]) fun _ _ _ _ _ _ us hl => match us, hl with | [_, _, _, _], _ => rfl
  have bOfL : Binds K dOfL ["lib"] [] := DOfL.F.binds (ps := ["lib"]) fun _ _ _ _ _ _ us hl => match us, hl with | [_], _ => rfl
  have bWei : Binds K dWei ["heavy", "form"] [] := DWei.F.binds (ps := ["heavy", "form"]) fun _ _ _ _ _ _ us hl => match us, hl with | [_, _], _ => rfl
  have bHea : Binds K dHea ["of"] [] := DHea.F.binds (ps := ["of"]) fun _ _ _ _ _ _ us hl => match us, hl with | [_], _ => rfl
  have bNum : Binds K dNum ["spring"] [] := DNum.F.binds (ps := ["spring"]) fun _ _ _ _ _ _ us hl => match us, hl with | [_], _ => rfl
  have bDat : Binds K dDat ["spring", "of", "heavy", "form", "left"] [] := DDat.F.binds (ps := ["spring", "of", "heavy", "form", "left"]) fun _ _ _ _ _ _ us hl => match us, hl with | [_, _, _, _, _], _ => rfl
  have bSoF : Binds K dSoF ["spring", "names", "heavy"] [] := DSoF.F.binds (ps := ["spring", "names", "heavy"]) fun _ _ _ _ _ _ us hl => match us, hl with | [_, _, _], _ => rfl
  have bSid : Binds K dSid ["datum"] [] := DSid.F.binds (ps := ["datum"]) fun _ _ _ _ _ _ us hl => match us, hl with | [_], _ => rfl
  have bRoa : Binds K dRoa ["of", "form", "gap", "datum"] [] := DRoa.F.binds (ps := ["of", "form", "gap", "datum"]) fun _ _ _ _ _ _ us hl => match us, hl with | [_, _, _, _], _ => rfl
  have bIsF : Binds K dIsF ["lib", "of", "form", "gap", "datum"] [] := DIsF.F.binds (ps := ["lib", "of", "form", "gap", "datum"]) fun _ _ _ _ _ _ us hl => match us, hl with | [_, _, _, _, _], _ => rfl
  have bRigh : Binds K dRigh ["spring"] [] := DRigh.F.binds (ps := ["spring"]) fun _ _ _ _ _ _ us hl => match us, hl with | [_], _ => rfl
  have bBkB : Binds K dBkB ["book", "hole"] [] := DBkB.F.binds (ps := ["book", "hole"]) fun _ _ _ _ _ _ us hl => match us, hl with | [_, _], _ => rfl
  have kSpo : KB4 K dSpo "book" "kind" "hole" "value" := Fun.binds4 DSpo.F fun _ _ _ _ _ _ _ _ _ _ => rfl
  have FL := fun_mk (st := sLaw) lL cL kL
  refine ⟨cB, fnOf "law" "law" (defArgs sLaw) (defBody sLaw) (defScope sLaw) .none kV dc pm an cd ct, codeHd_of_K X cH, fun s u => .of_eq rfl, fun base hb1 hb2 TB => ?_⟩
  have EB : Eb P w K mg base aC := ⟨One.mk1 E1 fo_index, cb, ct', mg_of X G E1.a, ck, cx⟩
  have gIwr : Gv P w K mg base 1 "is_written" aIwr dIwr ["text"] (spWr) := ⟨ok_iswr DIwr.F T, bIwr, DIwr.F.kp, mg_of X G DIwr.a⟩
  have gInm : Gv P w K mg base 2 "is_name" aInm dInm ["value"] (spNm K) := ⟨ok_isname DInm.F T U gIwr, bInm, DInm.F.kp, mg_of X G DInm.a⟩
  have gAmo : Gv P w K mg base 3 "kinds_among" aAmo dAmo ["part"] (spKa K) := ⟨ok_among DAmo.F T U Tu gInm, bAmo, DAmo.F.kp, mg_of X G DAmo.a⟩
  have gFou : Gv P w K mg base 4 "parts_found" aFou dFou ["value"] (spPf K) := ⟨ok_found DFou.F T Pp gAmo, bFou, DFou.F.kp, mg_of X G DFou.a⟩
  have gIki : Gv P w K mg base 5 "is_kind" aIki dIki ["value"] (spIk K 120) := ⟨ok_iskind DIki.F gFou, bIki, DIki.F.kp, mg_of X G DIki.a⟩
  have gNam : Gv P w K mg base 1 "names_among" aNam dNam ["parts"] (spNa K) := ⟨ok_nmam DNam.F, bNam, DNam.F.kp, mg_of X G DNam.a⟩
  have gNmM : Gv P w K mg base 1 "name_made" aNmM dNmM ["name", "hole"] (spCal K) := ⟨ok_NmMd DNmM.F, bNmM, DNmM.F.kp, mg_of X G DNmM.a⟩
  have gMaO : Gv P w K mg base 1 "made_of" aMaO dMaO ["name"] (spMo K) := ⟨ok_madeof DMaO.F NC, bMaO, DMaO.F.kp, mg_of X G DMaO.a⟩
  have gHoM : Gv P w K mg base 2 "hole_made" aHoM dHoM ["hole"] (spHo K) := ⟨ok_holM DHoM.F NC gNmM, bHoM, DHoM.F.kp, mg_of X G DHoM.a⟩
  have gKiM : Gv P w K mg base 62 "kind_made" aKiM dKiM ["kind", "hole"] (spKm K 30) := kindsM DKiM.F bKiM (mg_of X G DKiM.a) DPaM.F bPaM (mg_of X G DPaM.a) NC gNmM gHoM 30
  have gIKn : Gv P w K mg base 5 "is_known" aIKn dIKn ["table", "value"] (spKn K 120) := ⟨ok_known DIKn.F T gFou gNam, bIKn, DIKn.F.kp, mg_of X G DIKn.a⟩
  have gKnH : Gv P w K mg base 6 "is_known_hole" aKnH dKnH ["table", "value"] (spKh K 120) := ⟨ok_knhole DKnH.F gIKn gIwr, bKnH, DKnH.F.kp, mg_of X G DKnH.a⟩
  have gByR : Gv P w K mg base 63 "is_made_by_rules" aByR dByR ["table", "name"] (spRu K 120) := ⟨ok_byrules (by decide) DByR.F gIwr gMaO gKnH gKiM, bByR, DByR.F.kp, mg_of X G DByR.a⟩
  have gPAb : Gv P w K mg base 6 "is_pair_above" aPAb dPAb ["ahead", "row"] (spPa K 120) := ⟨ok_pairab DPAb.F T U Tu gInm gIki, bPAb, DPAb.F.kp, mg_of X G DPAb.a⟩
  have gChP : GvX P w K mg base 7 "check_pairs" aChP dChP ["book"] (spCp K 120 aC) := ⟨ok_check DChP.F T U Tu V' EB gPAb, bChP, DChP.F.kp, mg_of X G DChP.a⟩
  have gTab : GvX P w K mg base 64 "table_of" aTab dTab ["book"] (spTo K 120 aC) := ⟨ok_table DTab.F V' EB gChP gIKn gByR, bTab, DTab.F.kp, mg_of X G DTab.a⟩
  have gChK : Gv P w K mg base 6 "check_kind" aChK dChK ["table", "kind"] (spCk K 120) := ⟨ok_checkkind DChK.F gIKn, bChK, DChK.F.kp, mg_of X G DChK.a⟩
  have gChH : Gv P w K mg base 7 "check_hole" aChH dChH ["table", "hole"] (spCh K 120) := ⟨ok_checkhole DChH.F gKnH, bChH, DChH.F.kp, mg_of X G DChH.a⟩
  have gTaF : Gv P w K mg base 65 "table_for" aTaF dTaF ["book", "kind"] (spTf K 120) := ⟨ok_tablefor DTaF.F gTab gChK, bTaF, DTaF.F.kp, mg_of X G DTaF.a⟩
  have gTaH : Gv P w K mg base 66 "table_for_hole" aTaH dTaH ["book", "kind", "hole"] (spTh K 120) := ⟨ok_tableforhole DTaH.F (by decide) gTaF gChH, bTaH, DTaH.F.kp, mg_of X G DTaH.a⟩
  have gKiB : Gv P w K mg base 67 "kind_by" aKiB dKiB ["book", "kind", "hole"] (spKb K 120) := ⟨ok_kindby DKiB.F gTaH gKiM, bKiB, DKiB.F.kp, mg_of X G DKiB.a⟩
  have gTaM : Gv P w K mg base 63 "table_made" aTaM dTaM ["table", "hole"] (spTm K) := ⟨ok_tablemade DTaM.F DI gNmM gKiM, bTaM, DTaM.F.kp, mg_of X G DTaM.a⟩
  have gBkB : Gv P w K mg base 65 "book_by" aBkB dBkB ["book", "hole"] (spBb K 120 PT) := ⟨ok_bookby DBkB.F (by decide) TB SG TU gTab gChH gTaM, bBkB, DBkB.F.kp, mg_of X G DBkB.a⟩
  have gDraw : Gv P w K mg base 1 "_law_draw" aDraw dDraw ["spring", "top"] (spDraw) := ⟨ok_draw DDraw.F N, bDraw, DDraw.F.kp, mg_of X G DDraw.a⟩
  have gPick : Gv P w K mg base 2 "_law_pick" aPick dPick ["spring", "some"] (spPick K) := ⟨ok_pick DPick.F N gDraw.ok gDraw.b gDraw.k gDraw.m, bPick, DPick.F.kp, mg_of X G DPick.a⟩
  have gPickL : Gv P w K mg base 2 "_law_pick" aPick dPick ["spring", "some"] (spPickL K) := ⟨ok_pickL DPick.F N gDraw, bPick, DPick.F.kp, mg_of X G DPick.a⟩
  have gWell : Gv P w K mg base 1 "_law_spring" aWell dWell ["script", "lap"] (spWell K) := ⟨ok_well DWell.F N, bWell, DWell.F.kp, mg_of X G DWell.a⟩
  have gSame : GvZ (RoomG 1) P w K mg base "_law_is" aSame dSame ["gave", "due"] (spSame K) := ⟨ok_same DSame.F N, bSame, DSame.F.kp, mg_of X G DSame.a⟩
  have gName : Gv P w K mg base 2 "_law_name" aName dName ["spring", "taken"] (spName K) := ⟨ok_name DName.F R gDraw, bName, DName.F.kp, mg_of X G DName.a⟩
  have gFo := formsF DForm.F bForm (mg_of X G DForm.a) gDraw gPick gPickL.ok
  have gOwnF : Gv P w K mg base 12 "_law_own_form" aOwnF dOwnF ["spring", "names", "name", "left"] (spOf K) := ⟨ok_ownform DOwnF.F gDraw gPick gPickL.ok (gFo 8), bOwnF, DOwnF.F.kp, mg_of X G DOwnF.a⟩
  have gLib : Gv P w K mg base 13 "_law_lib" aLib dLib ["spring", "left"] (spLb K) := ⟨ok_lib DLib.F R TU SG gDraw gName gOwnF, bLib, DLib.F.kp, mg_of X G DLib.a⟩
  have gGap : Gv P w K mg base 3 "_law_gap" aGap dGap ["spring", "names"] (spGp K) := ⟨ok_gap DGap.F gDraw gPick gPickL.ok, bGap, DGap.F.kp, mg_of X G DGap.a⟩
  have gNaBy : Gv P w K mg base 1 "_law_name_by" aNaBy dNaBy ["name", "gap"] (spCal K) := ⟨ok_nameby DNaBy.F, bNaBy, DNaBy.F.kp, mg_of X G DNaBy.a⟩
  have gBy : Gv P w K mg base 31 "_law_by" aBy dBy ["form", "gap"] (spMb K 30) := bys DBy.F bBy (mg_of X G DBy.a) gNaBy 30
  have gLiBy : Gv P w K mg base 32 "_law_lib_by" aLiBy dLiBy ["lib", "gap"] (spLy K) := ⟨ok_libby DLiBy.F TU SG LI gNaBy gBy, bLiBy, DLiBy.F.kp, mg_of X G DLiBy.a⟩
  have gWhN : Gv P w K mg base 1 "is_whole_number" aWhN dWhN ["value"] (spLeaf K numOk) := ⟨ok_whole DWhN.F U INT, bWhN, DWhN.F.kp, mg_of X G DWhN.a⟩
  have gEmp : Gv P w K mg base 1 "is_empty" aEmp dEmp ["value"] (spLeaf K emptyD) := ⟨ok_empty DEmp.F T U Tu, bEmp, DEmp.F.kp, mg_of X G DEmp.a⟩
  have gROf : Gv P w K mg base 1 "is_row_of" aROf dROf ["word", "many", "row"] (spRow K) := ⟨ok_rowof DROf.F T U, bROf, DROf.F.kp, mg_of X G DROf.a⟩
  have gPwi : Gv P w K mg base 2 "parts_within" aPwi dPwi ["kind", "value", "is_thing"] (spPwi K numOk aWhN) := ⟨ok_within (Nat.le_refl 1) DPwi.F U Tu gWhN gEmp gROf, bPwi, DPwi.F.kp, mg_of X G DPwi.a⟩
  have gUnf : Gv P w K mg base 1 "unfolded" aUnf dUnf ["table", "kind"] (spUnf K) := ⟨ok_unfolded DUnf.F R N.len NC, bUnf, DUnf.F.kp, mg_of X G DUnf.a⟩
  have gHKi : Gv P w K mg base 3 "has_kind" aHKi dHKi ["table", "kind", "value", "is_thing"] (spHk K numOk aWhN) := ⟨ok_haskind DHKi.F gUnf gPwi, bHKi, DHKi.F.kp, mg_of X G DHKi.a⟩
  have gChV : Gv P w K mg base 4 "check_value" aChV dChV ["table", "kind", "value"] (spCv K) := ⟨ok_checkvalue DChV.F gWhN.m gHKi, bChV, DChV.F.kp, mg_of X G DChV.a⟩
  have gIVa : Gv P w K mg base 65 "is_value" aIVa dIVa ["book", "kind", "value"] (spIv K 120) := ⟨ok_isvalue DIVa.F gWhN.m gTab gChK gHKi, bIVa, DIVa.F.kp, mg_of X G DIVa.a⟩
  have gKSi : Gv P w K mg base 1 "kind_on_side" aKSi dKSi ["kind", "side"] (spKs K) := ⟨ok_side DKSi.F, bKSi, DKSi.F.kp, mg_of X G DKSi.a⟩
  have gBel : Gv P w K mg base 2 "parts_below" aBel dBel ["table", "kind", "value", "path"] (spBel K numOk) := ⟨ok_below DBel.F gKSi, bBel, DBel.F.kp, mg_of X G DBel.a⟩
  have gMet : Gv P w K mg base 3 "parts_met" aMet dMet ["table", "kind", "value"] (spMet K numOk) := ⟨ok_met DMet.F gBel, bMet, DMet.F.kp, mg_of X G DMet.a⟩
  have gPto : Gv P w K mg base 4 "paths_to" aPto dPto ["table", "kind", "hole", "value"] (spPto K numOk) := ⟨ok_paths DPto.F gMet, bPto, DPto.F.kp, mg_of X G DPto.a⟩
  have gSpo : Gv P w K mg base 67 "spots" aSpo dSpo ["book", "kind", "hole", "value"] (spSpt K 120) := ⟨ok_spots DSpo.F TU gTaH gChV gPto, bSpo, DSpo.F.kp, mg_of X G DSpo.a⟩
  have gOfL : Gv P w K mg base 1 "_law_of" aOfL dOfL ["lib"] (spOfL K) := ⟨ok_ofl DOfL.F, bOfL, DOfL.F.kp, mg_of X G DOfL.a⟩
  have gWei : Gv P w K mg base 25 "_law_weight" aWei dWei ["heavy", "form"] (spWt K 24) := weightsF DWei.F bWei (mg_of X G DWei.a) MI 24
  have gHea : Gv P w K mg base 26 "_law_heavy" aHea dHea ["of"] (spHv K) := ⟨ok_heavy DHea.F R N.len LI MI gWei, bHea, DHea.F.kp, mg_of X G DHea.a⟩
  have gNum : Gv P w K mg base 3 "_law_number" aNum dNum ["spring"] (spNu) := ⟨ok_number DNum.F gDraw gPick, bNum, DNum.F.kp, mg_of X G DNum.a⟩
  have gDat : Gv P w K mg base 70 "_law_datum" aDat dDat ["spring", "of", "heavy", "form", "left"] (spDa K 45) := datums DDat.F bDat (mg_of X G DDat.a) gDraw gNum gWei 45
  have gSoF : Gv P w K mg base 26 "_law_some_form" aSoF dSoF ["spring", "names", "heavy"] (spSf K) := ⟨ok_someform DSoF.F N R gDraw gPick gPickL.ok (gFo 7) gWei, bSoF, DSoF.F.kp, mg_of X G DSoF.a⟩
  have gSid : Gv P w K mg base 1 "_law_side" aSid dSid ["datum"] (spSd K) := ⟨ok_lside DSid.F, bSid, DSid.F.kp, mg_of X G DSid.a⟩
  have gRoa : Gv P w K mg base 102 "_law_roads" aRoa dRoa ["of", "form", "gap", "datum"] (spRo K 100) := roadsF DRoa.F bRoa (mg_of X G DRoa.a) gSid 100
  have gSameA : GvZ (RoomG 126) P w K mg base "_law_is" aSame dSame ["gave", "due"] (spSameA K) := ⟨ok_sameA DSame.F N, bSame, DSame.F.kp, mg_of X G DSame.a⟩
  have gIsF : GvZ (RoomG 127) P w K mg base "_law_is_found" aIsF dIsF ["lib", "of", "form", "gap", "datum"] (spFd K) := ⟨ok_isfound DIsF.F TU gRoa gSpo kSpo gSame gSameA gIVa, bIsF, DIsF.F.kp, mg_of X G DIsF.a⟩
  have gRigh : GvZ (RoomG 128) P w K mg base "_law_right" aRigh dRigh ["spring"] (spRi PT) := ⟨ok_right DRigh.F R AL gLib gOfL gHea gSoF gDat gPick gPickL.ok gGap gIsF gLiBy gBy gWei gSame gBkB gKiB, bRigh, DRigh.F.kp, mg_of X G DRigh.a⟩
  exact ok_law FL N R L gWell gRigh
end
theorem walk {l : OpenLaw} {q : Program} {loose : List Str} {XP : (Str → Option Value) → Heap → Prop} {YP : World → Heap → Prop} {d : DefRec} {K : Params → Frag} {PT : Addr} (hn : l.most = some 63) (hdf : d.params.defaults = [])
    (hY : ∀ (w : World) (h : Heap), YP w h → (K w.params).In h) (hT : ∀ (w : World) (h : Heap), YP w h → h.get? PT = some (tabObj #[])) (nT : ∀ w : World, (K w.params).lookup PT = none)
    (F : ∀ (w : World) (mg : Str → Option Value) (fa : Addr) (h : Heap), (K w.params).In h → h.Ns mainGlobals mg → mg d.name = some (.ref fa) →
      ∃ (cB : Addr) (fd : FuncData), CodeHd h cB PT ∧ (∀ (s : Shared) (u : Value), BindsTo s fd ⟨[u], []⟩ [("script", u)]) ∧ ∀ base : Heap, (K w.params).In base → base.Ns mainGlobals mg → TabB base mg cB PT → FnZ (RoomG 129) l.prog w (K w.params) mg base fa fd ["script"] (spLaw (K w.params) PT)) :
    WalkO q loose XP YP l.row.toRowW d [] (fun f vs => PySem.call f vs) := by
  refine Att.attach_callB hn hdf fun w s₀ s₁ mg mb fa o pm cd doc a vs ns G Y ho hd hcd hmg hobj hints hlen hbits hg => ?_
  have KX := hY w _ Y
  obtain ⟨cB, fd, C, hb, hF⟩ := F w mg fa _ KX G.T.g hmg
  refine law_callT (Z := RoomG 129) (x := "script") (sp := spLaw (K w.params) PT) KX G.T.g G.T.b G.T.builtins G.T.nolimit hg (hT w _ Y) (nT w) C G.T.bmain hobj hints (Nat.le_trans hlen (by decide)) ⟨⟨rfl, by decide, by decide⟩, rfl⟩ hF hb (fun H hP hS => ⟨a, ns, rfl, fun p mp => ?_, hS, hlen, fun _ => rfl⟩)
  rw [List.mem_singleton.mp mp]
  exact TabS.nil hP
end Toy
set_option Elab.async false
set_option linter.all false
set_option maxRecDepth 100000
open PySem PySem.W PyProof.Rows
set_option maxRecDepth 100000 in
set_option maxHeartbeats 0 in
theorem PySem.Challenge.cw_holekinds_k21_whole_spots_by_own_walk_holds : PySem.Challenge.rw_holekinds_k21_whole_spots_by_own_walk.Holds := by
  w_on; o_law; k_head; (case hw => w_witness2)
  k_fill
  refine Toy.walk (l := PySem.Challenge.rw_holekinds_k21_whole_spots_by_own_walk) rfl rfl (fun w h Y => PySem.W.km_in_of Y) (fun w h Y => PySem.W.km_tabs_of Y _ (List.mem_singleton.mpr rfl)) ?nT ?F
  case nT => exact fun w => by kernel_rfl
  case F =>
    intro w mg fa h KX G hmg
    refine' Toy.all_mk KX G hmg ?DBkB ?DInm ?DIwr ?DIki ?DNam ?DFou ?DAmo ?DNmM ?DMaO ?DKiM ?DTaM ?DHoM ?DPaM ?DTab ?DChP ?DPAb ?DByR ?DChK ?DIKn ?DKnH ?DTaF ?DTaH ?DChH ?DKiB ?DWell ?DDraw ?DPick ?DSame ?DName ?DForm ?DOwnF ?DLib ?DGap ?DNaBy ?DBy ?DLiBy ?DIVa ?DWhN ?DEmp ?DHKi ?DUnf ?DPwi ?DROf ?DMet ?DBel ?DKSi ?DPto ?DChV ?DSpo ?DOfL ?DWei ?DHea ?DNum ?DDat ?DSoF ?DSid ?DRoa ?DIsF ?DRigh ?C1 ?C2 ?C3 ?C4 ?C5 ?C6 ?C7 ?hT ?lT ?hN ?lN ?hU ?lU ?E1 ?cb ?ct ?ck ?cx ?aL ?lL ?cL ?kL ?b0 ?cH
    case DBkB => refine' Toy.defc_mk ?a ?l ?c ?k; (case a => k_is); (case l => k_is); (case c => k_is); (case k => k_is)
    case DInm => refine' Toy.def_mk ?a ?l ?c ?k; (case a => k_is); (case l => k_is); (case c => k_is); (case k => k_is)
    case DIwr => refine' Toy.def_mk ?a ?l ?c ?k; (case a => k_is); (case l => k_is); (case c => k_is); (case k => k_is)
    case DIki => refine' Toy.def_mk ?a ?l ?c ?k; (case a => k_is); (case l => k_is); (case c => k_is); (case k => k_is)
    case DNam => refine' Toy.def_mk ?a ?l ?c ?k; (case a => k_is); (case l => k_is); (case c => k_is); (case k => k_is)
    case DFou => refine' Toy.def_mk ?a ?l ?c ?k; (case a => k_is); (case l => k_is); (case c => k_is); (case k => k_is)
    case DAmo => refine' Toy.def_mk ?a ?l ?c ?k; (case a => k_is); (case l => k_is); (case c => k_is); (case k => k_is)
    case DNmM => refine' Toy.def_mk ?a ?l ?c ?k; (case a => k_is); (case l => k_is); (case c => k_is); (case k => k_is)
    case DMaO => refine' Toy.def_mk ?a ?l ?c ?k; (case a => k_is); (case l => k_is); (case c => k_is); (case k => k_is)
    case DKiM => refine' Toy.def_mk ?a ?l ?c ?k; (case a => k_is); (case l => k_is); (case c => k_is); (case k => k_is)
    case DTaM => refine' Toy.def_mk ?a ?l ?c ?k; (case a => k_is); (case l => k_is); (case c => k_is); (case k => k_is)
    case DHoM => refine' Toy.def_mk ?a ?l ?c ?k; (case a => k_is); (case l => k_is); (case c => k_is); (case k => k_is)
    case DPaM => refine' Toy.def_mk ?a ?l ?c ?k; (case a => k_is); (case l => k_is); (case c => k_is); (case k => k_is)
    case DTab => refine' Toy.def_mk ?a ?l ?c ?k; (case a => k_is); (case l => k_is); (case c => k_is); (case k => k_is)
    case DChP => refine' Toy.def_mk ?a ?l ?c ?k; (case a => k_is); (case l => k_is); (case c => k_is); (case k => k_is)
    case DPAb => refine' Toy.def_mk ?a ?l ?c ?k; (case a => k_is); (case l => k_is); (case c => k_is); (case k => k_is)
    case DByR => refine' Toy.def_mk ?a ?l ?c ?k; (case a => k_is); (case l => k_is); (case c => k_is); (case k => k_is)
    case DChK => refine' Toy.def_mk ?a ?l ?c ?k; (case a => k_is); (case l => k_is); (case c => k_is); (case k => k_is)
    case DIKn => refine' Toy.def_mk ?a ?l ?c ?k; (case a => k_is); (case l => k_is); (case c => k_is); (case k => k_is)
    case DKnH => refine' Toy.def_mk ?a ?l ?c ?k; (case a => k_is); (case l => k_is); (case c => k_is); (case k => k_is)
    case DTaF => refine' Toy.def_mk ?a ?l ?c ?k; (case a => k_is); (case l => k_is); (case c => k_is); (case k => k_is)
    case DTaH => refine' Toy.def_mk ?a ?l ?c ?k; (case a => k_is); (case l => k_is); (case c => k_is); (case k => k_is)
    case DChH => refine' Toy.def_mk ?a ?l ?c ?k; (case a => k_is); (case l => k_is); (case c => k_is); (case k => k_is)
    case DKiB => refine' Toy.def_mk ?a ?l ?c ?k; (case a => k_is); (case l => k_is); (case c => k_is); (case k => k_is)
    case DWell => refine' Toy.def_mk ?a ?l ?c ?k; (case a => k_is); (case l => k_is); (case c => k_is); (case k => k_is)
    case DDraw => refine' Toy.def_mk ?a ?l ?c ?k; (case a => k_is); (case l => k_is); (case c => k_is); (case k => k_is)
    case DPick => refine' Toy.def_mk ?a ?l ?c ?k; (case a => k_is); (case l => k_is); (case c => k_is); (case k => k_is)
    case DSame => refine' Toy.def_mk ?a ?l ?c ?k; (case a => k_is); (case l => k_is); (case c => k_is); (case k => k_is)
    case DName => refine' Toy.def_mk ?a ?l ?c ?k; (case a => k_is); (case l => k_is); (case c => k_is); (case k => k_is)
    case DForm => refine' Toy.def_mk ?a ?l ?c ?k; (case a => k_is); (case l => k_is); (case c => k_is); (case k => k_is)
    case DOwnF => refine' Toy.def_mk ?a ?l ?c ?k; (case a => k_is); (case l => k_is); (case c => k_is); (case k => k_is)
    case DLib => refine' Toy.def_mk ?a ?l ?c ?k; (case a => k_is); (case l => k_is); (case c => k_is); (case k => k_is)
    case DGap => refine' Toy.def_mk ?a ?l ?c ?k; (case a => k_is); (case l => k_is); (case c => k_is); (case k => k_is)
    case DNaBy => refine' Toy.def_mk ?a ?l ?c ?k; (case a => k_is); (case l => k_is); (case c => k_is); (case k => k_is)
    case DBy => refine' Toy.def_mk ?a ?l ?c ?k; (case a => k_is); (case l => k_is); (case c => k_is); (case k => k_is)
    case DLiBy => refine' Toy.def_mk ?a ?l ?c ?k; (case a => k_is); (case l => k_is); (case c => k_is); (case k => k_is)
    case DIVa => refine' Toy.def_mk ?a ?l ?c ?k; (case a => k_is); (case l => k_is); (case c => k_is); (case k => k_is)
    case DWhN => refine' Toy.def_mk ?a ?l ?c ?k; (case a => k_is); (case l => k_is); (case c => k_is); (case k => k_is)
    case DEmp => refine' Toy.def_mk ?a ?l ?c ?k; (case a => k_is); (case l => k_is); (case c => k_is); (case k => k_is)
    case DHKi => refine' Toy.def_mk ?a ?l ?c ?k; (case a => k_is); (case l => k_is); (case c => k_is); (case k => k_is)
    case DUnf => refine' Toy.def_mk ?a ?l ?c ?k; (case a => k_is); (case l => k_is); (case c => k_is); (case k => k_is)
    case DPwi => refine' Toy.def_mk ?a ?l ?c ?k; (case a => k_is); (case l => k_is); (case c => k_is); (case k => k_is)
    case DROf => refine' Toy.def_mk ?a ?l ?c ?k; (case a => k_is); (case l => k_is); (case c => k_is); (case k => k_is)
    case DMet => refine' Toy.def_mk ?a ?l ?c ?k; (case a => k_is); (case l => k_is); (case c => k_is); (case k => k_is)
    case DBel => refine' Toy.def_mk ?a ?l ?c ?k; (case a => k_is); (case l => k_is); (case c => k_is); (case k => k_is)
    case DKSi => refine' Toy.def_mk ?a ?l ?c ?k; (case a => k_is); (case l => k_is); (case c => k_is); (case k => k_is)
    case DPto => refine' Toy.def_mk ?a ?l ?c ?k; (case a => k_is); (case l => k_is); (case c => k_is); (case k => k_is)
    case DChV => refine' Toy.def_mk ?a ?l ?c ?k; (case a => k_is); (case l => k_is); (case c => k_is); (case k => k_is)
    case DSpo => refine' Toy.def_mk ?a ?l ?c ?k; (case a => k_is); (case l => k_is); (case c => k_is); (case k => k_is)
    case DOfL => refine' Toy.def_mk ?a ?l ?c ?k; (case a => k_is); (case l => k_is); (case c => k_is); (case k => k_is)
    case DWei => refine' Toy.def_mk ?a ?l ?c ?k; (case a => k_is); (case l => k_is); (case c => k_is); (case k => k_is)
    case DHea => refine' Toy.def_mk ?a ?l ?c ?k; (case a => k_is); (case l => k_is); (case c => k_is); (case k => k_is)
    case DNum => refine' Toy.def_mk ?a ?l ?c ?k; (case a => k_is); (case l => k_is); (case c => k_is); (case k => k_is)
    case DDat => refine' Toy.def_mk ?a ?l ?c ?k; (case a => k_is); (case l => k_is); (case c => k_is); (case k => k_is)
    case DSoF => refine' Toy.def_mk ?a ?l ?c ?k; (case a => k_is); (case l => k_is); (case c => k_is); (case k => k_is)
    case DSid => refine' Toy.def_mk ?a ?l ?c ?k; (case a => k_is); (case l => k_is); (case c => k_is); (case k => k_is)
    case DRoa => refine' Toy.def_mk ?a ?l ?c ?k; (case a => k_is); (case l => k_is); (case c => k_is); (case k => k_is)
    case DIsF => refine' Toy.def_mk ?a ?l ?c ?k; (case a => k_is); (case l => k_is); (case c => k_is); (case k => k_is)
    case DRigh => refine' Toy.def_mk ?a ?l ?c ?k; (case a => k_is); (case l => k_is); (case c => k_is); (case k => k_is)
    (case C1 => k_is); (case C2 => k_is); (case C3 => k_is); (case C4 => k_is); (case C5 => k_is); (case C6 => k_is); (case C7 => k_is)
    (case hT => k_is); (case lT => k_is); (case hN => k_is); (case lN => k_is); (case hU => k_is); (case lU => k_is)
    case E1 =>
      refine' Toy.one_mk (pa := ⟨21, 17, 21, 21⟩) (pb := ⟨21, 23, 21, 28⟩) (txt := "no BOOK") (p := fun i => [⟨22, 8, 22, 13⟩, ⟨22, 8, 22, 15⟩, ⟨22, 8, 22, 24⟩, ⟨22, 25, 22, 34⟩, ⟨22, 8, 22, 35⟩, ⟨22, 8, 22, 35⟩, ⟨23, 8, 23, 12⟩, ⟨23, 8, 23, 18⟩, ⟨23, 21, 23, 26⟩, ⟨23, 8, 23, 26⟩].getD i ⟨0, 0, 0, 0⟩) ?a ?xL ?hb ?sa ?iC ?tC ?kC ?sb ?sV ?su ?tp ?sp ?l1 ?c1 ?l2 ?l3 ?n ?v2 ?mf ?top ?se
      (case a => k_is); (case xL => k_is); (case hb => decide +kernel); (case sa => k_is); (case iC => k_is); (case tC => k_is); (case kC => k_is); (case sb => k_is); (case sV => k_is); (case su => ks_is); (case tp => k_is); (case sp => k_is); (case l1 => k_is); (case c1 => k_is); (case l2 => k_is); (case l3 => k_is); (case n => k_is); (case v2 => rfl); (case mf => decide +kernel); (case top => decide +kernel); (case se => (exact fun _ => rfl))
    (case cb => k_is); (case ct => k_is); (case ck => k_is); (case cx => first | k_is | kernel_rfl)
    (case aL => k_is); (case lL => k_is); (case cL => k_is); (case kL => k_is)
    (case b0 => kernel_rfl)
    (case cH => kernel_rfl)
